"""Rights: what questions, checks, and all that is made from them have in common."""

from listandpage.basics import is_integer
from listandpage.bodies import Body, put_together
from listandpage.claims import Certain, Constant, Join, Opposite
from listandpage.deciding import find_escape, need_small
from listandpage.errors import Mismatch, NoName, NoRow, TooMany
from listandpage.worlds import StoreWorld


class Right:
    """A right: for each store, thing and user it admits or does not. It never changes."""

    MOST = 100

    def __init__(self, schema, table, body):
        if body.load() > Right.MOST:
            raise TooMany("weight")
        self.schema = schema
        self.table = table
        self.body = body

    def admits(self, store, thing, user):
        """Whether it admits the thing to the user."""
        self.need_place(store, [(self.table, thing), (self.schema.user, user)])
        return self.body.root.claim(StoreWorld(store), (thing, user), True)

    def __call__(self, store, user):
        """The list of a user: the things that it admits to the user."""
        self.need_place(store, [(self.schema.user, user)])
        world = StoreWorld(store)
        found = []
        for thing in range(len(store.rows(self.table))):
            if self.body.root.claim(world, (thing, user), True):
                found.append(thing)
        return Listing(found)

    def need_place(self, store, pairs):
        """Raise an error unless the store has this schema and these rows, pairs of tables and any values."""
        if store.schema != self.schema:
            raise Mismatch(-1)
        for pair in pairs:
            if pair not in store:
                raise NoRow(pair[0], pair[1])

    def walks(self):
        """The table of each walk."""
        return list(self.body.walked)

    def weight(self):
        """The weight."""
        return self.body.load()

    def filled(self):
        """The right with the same texts for the schema in which no column is optional."""
        return Made(self.schema.filled(), self.table, self.body)

    def meets(self, other):
        """Whether another right has the same schema and table."""
        return self.schema == other.schema and self.table == other.table

    def need_meeting(self, other):
        """Raise Mismatch unless another right has the same schema and table."""
        if not self.meets(other):
            raise Mismatch(1)

    def implies(self, other):
        """Whether another right of the same schema and table admits all that this one admits."""
        need_small([self.body, other.body])
        return find_escape(self.schema, self.table, self.body, other.body) is None

    def __and__(self, other):
        self.need_meeting(other)
        return _made([self, other], Join([Certain(self.body.root), Certain(other.body.root)], True))

    def __or__(self, other):
        self.need_meeting(other)
        return _made([self, other], Join([Certain(self.body.root), Certain(other.body.root)], False))

    def __sub__(self, other):
        self.need_meeting(other)
        return _made([self, other], Join([Certain(self.body.root), Opposite(Certain(other.body.root))], True))

    def __invert__(self):
        return _made([self], Opposite(Certain(self.body.root)))

    def __le__(self, other):
        self.need_meeting(other)
        return self.implies(other)

    def __lt__(self, other):
        self.need_meeting(other)
        return self.implies(other) and not other.implies(self)

    def __eq__(self, other):
        return isinstance(other, Right) and self.meets(other) and self.implies(other) and other.implies(self)


class Made(Right):
    """A right that is neither a question nor a check."""


class Listing:
    """The list of a user, as it was when it was asked for."""

    def __init__(self, things):
        self.things = tuple(things)

    def __len__(self):
        return len(self.things)

    def __contains__(self, thing):
        return is_integer(thing) and thing in self.things

    def __iter__(self):
        return iter(self.things)


def _made(rights, root):
    """The right that asks root of the first right's schema and table, made from these rights."""
    return Made(rights[0].schema, rights[0].table, put_together(root, [right.body for right in rights]))


def _joined(rights, every):
    """The right that admits what every one, or at least one, of some rights admits."""
    for at, right in enumerate(rights):
        if not rights[0].meets(right):
            raise Mismatch(at)
    return _made(rights, Join([Certain(right.body.root) for right in rights], every))


def any_of(first, *rest):
    """The right that admits what at least one of some rights admits."""
    return _joined([first, *rest], False)


def all_of(first, *rest):
    """The right that admits what each of some rights admits."""
    return _joined([first, *rest], True)


def _constant(schema, table, truth):
    """A right that admits everything or nothing."""
    if table not in schema:
        raise NoName(table)
    return Made(schema, table, Body(Constant(truth), [], 1, 0, []))


def nothing(schema, table):
    """The right that admits nothing."""
    return _constant(schema, table, False)


def everything(schema, table):
    """The right that admits everything."""
    return _constant(schema, table, True)
