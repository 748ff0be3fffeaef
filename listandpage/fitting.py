"""Fitting: whether what was read of a text fits its schema, and what it then means."""

from listandpage.basics import is_word
from listandpage.bodies import Body
from listandpage.claims import Constant, FlagTest, Join, LackTest, NumberTest, Opposite, Use, WordTest
from listandpage.paths import Move
from listandpage.routes import find_route
from listandpage.syntax import Asked, Denied, Joined, Truth, Used, Walked
from listandpage.tokens import Fault


# The forms of tests that walk.
LISTS = ("list", "looped")


class Fitter:
    """Goes through a text from left to right; the first thing that does not fit is the fault.

    The classes below tell by sealed, equal, fit_walk and fit_listed what differs in the two
    languages, and that for checks by fit_super what only these have.
    """

    def __init__(self, schema, uses):
        self.schema = schema
        self.uses = uses
        self.taken = {}
        self.routes = {}
        self.walked = []
        self.once = 0
        self.twice = 0
        self.notes = []

    def made_body(self, root):
        """The body of the text, which means what root asks."""
        return Body(root, self.walked, self.once, self.twice, self.notes)

    def require(self, fits, written):
        """Raise Fault at a token or a path unless all fits."""
        if not fits:
            raise Fault(written.line, written.place)

    def weigh(self, many, scope):
        """Count so much, which stands at a place of the text."""
        if scope.around:
            self.twice += many
        else:
            self.once += many

    def take_name(self, token):
        """Take a new name."""
        self.require(is_word(token.text) and token.text not in self.taken, token)
        self.taken[token.text] = True

    def route_of(self, trail, scope):
        """Where a path leads; its names are checked."""
        names = trail.dotted
        self.require(names[0] in scope.visible, trail)
        # A name means the same wherever it is visible in a text.
        if names not in self.routes:
            path, table = scope.visible[names[0]]
            self.routes[names] = find_route(self.schema, trail, path, table)
        return self.routes[names]

    def nest(self, tables, scope, token):
        """Add walks over these tables, which must be later than those of the walks around."""
        tables_in_order = list(self.schema.tables)
        for table in tables:
            if scope.around:
                later = tables_in_order.index(table) > tables_in_order.index(scope.around[-1])
                self.require(later, token)
        self.walked.extend(tables)

    def fit(self, node, scope):
        """What a question or a test, or a part of one, means."""
        if isinstance(node, Asked):
            meant = self.fit_listed(node, scope) if node.form in LISTS else self.sealed(self.fit_test(node, scope))
            return Opposite(meant) if node.denied else meant
        if isinstance(node, Truth):
            self.weigh(1, scope)
            return Constant(node.truth)
        if isinstance(node, Joined):
            return Join([self.fit(part, scope) for part in node.parts], node.word == "and")
        if isinstance(node, Denied):
            return Opposite(self.fit(node.inner, scope))
        if isinstance(node, Used):
            return self.sealed(self.fit_use(node, scope))
        if isinstance(node, Walked):
            return self.fit_walk(node, scope)
        return self.fit_super(node, scope)

    def fit_use(self, node, scope):
        """What the use of a right means."""
        name = node.name
        self.require(name.text in self.uses, name)
        route = self.route_of(node.trail, scope)
        used = self.uses[name.text]
        self.require(used.schema == self.schema and route.is_plain("row") and route.table == used.table, name)
        body = used.body
        self.nest(body.walked, scope, name)
        self.weigh(len(node.trail.dotted) + body.once, scope)
        self.twice += body.twice
        self.notes.extend(body.notes)
        return Use(route.path, body.root.moved(Move(route.path, len(scope.around))))

    def fit_test(self, test, scope):
        """What a test means that has no list."""
        left = self.route_of(test.left, scope)
        other = self.route_of(test.other, scope) if test.form == "paths" else None
        self.require(left.link is None and _fits(test.form, left, other), test.left)
        self.weigh(len(test.left.dotted), scope)
        self.note(test, left)
        if other is None:
            return _lone_test(test, left.path)
        self.weigh(len(test.other.dotted) - 1, scope)
        self.note_alike(left, other)
        return self.equal(left.path, other.path)

    def need_list(self, head, scope, token):
        """Take the path of the head of a walk, of which only the names are checked: it must end with a list."""
        self.require(head.is_head(), token)
        self.nest([head.table], scope, token)

    def note(self, test, left):
        """Note the words or the number that a path is compared with."""
        if test.form == "number":
            self.notes.append(("number", left.spot, (test.sign, test.other)))
        if test.form == "words":
            self.notes.append(("words", left.spot, test.other))

    def note_alike(self, left, other):
        """Note that two paths are compared, if they end in words."""
        if left.ends == "word":
            self.notes.append(("alike", left.spot, other.spot))


def _fits(form, left, other):
    """Whether a path without a list fits what stands beside it in a test."""
    if form == "paths":
        return other.link is None and left.meets(other)
    if form == "words":
        return left.ends == "word"
    return form == "lacks" or left.ends == form


def _lone_test(test, path):
    """What a test of one path alone means."""
    if test.form == "flag":
        return FlagTest(path)
    if test.form == "lacks":
        return LackTest(path)
    if test.form == "number":
        return NumberTest(path, test.sign, test.other)
    return WordTest(path, test.other)
