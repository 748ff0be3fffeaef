"""Families of checks: kinds, which inherit the checks of their bases."""

from listandpage.bodies import Body
from listandpage.check_fitting import check_body
from listandpage.check_texts import CheckText
from listandpage.claims import Certain, Constant, Join, WordTest
from listandpage.deciding import find_escape, need_small
from listandpage.errors import BadCheck, BadKind, NoName
from listandpage.paths import THING, Path
from listandpage.rights import Made, nothing
from listandpage.routes import find_step
from listandpage.schemas import Schema
from listandpage.tokens import Fault


class Kind:
    """A kind: its bases, its order, the statements of its check, None without one, and its right."""

    def __init__(self, bases, order, program, right):
        self.bases = bases
        self.lineage = order
        self.program = program
        self.granted = right


class Family:
    """Kinds for the things of a table."""

    def __init__(self, schema, table, *, uses=None):
        if table not in schema:
            raise NoName(table)
        self.schema = schema
        self.table = table
        self.uses = {} if uses is None else dict(uses)
        self._kinds = {}

    def add(self, name, bases=(), text=None):
        """Add a kind with some bases, and with a check or none."""
        if not Schema.is_name(name) or name in self._kinds:
            raise BadKind(name)
        for base in bases:
            self._need_kind(base)
        order = find_order(name, [self._kinds[base].lineage for base in bases] + [tuple(bases)])
        if order is None:
            raise BadKind(name)
        self._kinds[name] = self._kind_of(tuple(bases), order, text)

    def _kind_of(self, bases, order, text):
        """A new kind with these bases, this order, and a text, any value."""
        if text is None:
            return Kind(bases, order, None, self._right_of(None, order))
        if not isinstance(text, str):
            raise BadCheck(-1, -1)
        source = CheckText(text)
        try:
            program = source.read_whole()
            right = self._right_of(program, order)
        except Fault as fault:
            raise BadCheck(fault.line, source.position(fault.line, fault.place)) from None
        return Kind(bases, order, program, right)

    def _need_kind(self, name):
        """Raise NoName unless any value is a kind."""
        if not isinstance(name, str) or name not in self._kinds:
            raise NoName(name)

    def _right_of(self, program, order):
        """The right of a new kind with this check, or none, and this order."""
        programs = [program] + [self._kinds[kind].program for kind in order[1:]]
        checks = [each for each in programs if each is not None]
        if not checks:
            return nothing(self.schema, self.table)
        # Behind the last check nothing is admitted, and nothing weighs.
        body = Body(Constant(False), [], 0, 0, [])
        for each in checks[::-1]:
            body = check_body(self.schema, self.table, each, self.uses, body)
        return Made(self.schema, self.table, body)

    def kinds(self):
        """The names of the kinds, as they were added."""
        return list(self._kinds)

    def order(self, name):
        """The order of a kind."""
        self._need_kind(name)
        return tuple(self._kinds[name].lineage)

    def right(self, name):
        """The right of a kind."""
        self._need_kind(name)
        return self._kinds[name].granted

    def dispatch(self, column):
        """The right that admits a thing if its word in this column is a kind, and the right of this kind admits it."""
        step = find_step(self.schema, self.table, column)
        if step is None or self.schema.columns(self.table)[step.place][0] != "word":
            raise NoName(column)
        path = Path(THING, (step,))
        parts = []
        notes = []
        for name, kind in self._kinds.items():
            parts.append(Join([Certain(WordTest(path, [name])), Certain(kind.granted.body.root)], True))
            notes.append(("words", (self.table, column), (name,)))
        bodies = [kind.granted.body for kind in self._kinds.values()]
        walked = [table for body in bodies for table in body.walked]
        notes.extend([note for body in bodies for note in body.notes])
        once = 1 + sum([3 + body.once for body in bodies])
        twice = sum([body.twice for body in bodies])
        return Made(self.schema, self.table, Body(Join(parts, False), walked, once, twice, notes))

    def wider(self):
        """The pairs of a kind and a base of which the kind admits something that the base does not."""
        found = []
        for name, kind in self._kinds.items():
            for base in kind.bases:
                body = kind.granted.body
                other = self._kinds[base].granted.body
                need_small([body, other])
                if find_escape(self.schema, self.table, body, other) is not None:
                    found.append((name, base))
        return found


def find_order(name, sequences):
    """The name and behind it those of the sequences, each in its order; None if they cannot be in one order."""
    order = (name,)
    left = [tuple(sequence) for sequence in sequences if sequence]
    while left:
        head = find_head(left)
        if head is None:
            return None
        order = order + (head,)
        behind = [sequence[1:] if sequence[0] == head else sequence for sequence in left]
        left = [sequence for sequence in behind if sequence]
    return order


def find_head(sequences):
    """The first head that stands in no sequence behind its head, None if there is none."""
    for sequence in sequences:
        if not [other for other in sequences if sequence[0] in other[1:]]:
            return sequence[0]
    return None
