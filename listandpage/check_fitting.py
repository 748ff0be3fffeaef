"""Fitting the texts of checks."""

from listandpage.blocks import Block, For, If, Named, Program, Return, Returning
from listandpage.claims import Certain, Opposite, SameTest
from listandpage.fitting import Fitter
from listandpage.scopes import first_scope
from listandpage.syntax import Branching, Looping, Naming
from listandpage.walking import Some, Walk


class CheckFitter(Fitter):
    """Goes through the text of a check, in which each test is true or false.

    following: the body of the check that `super()` asks, None outside of families.
    """

    def __init__(self, schema, uses, following):
        Fitter.__init__(self, schema, uses)
        self.following = following
        # Of the outermost `for` around: what its returns give, None ahead of the first one.
        self.given = None
        self.returns = 0

    def sealed(self, claim):
        """A test or use as it stands in a check."""
        return Certain(claim)

    def equal(self, left, other):
        """The test whether two paths end in the same."""
        return SameTest(left, other)

    def fit_walk(self, node, scope):
        """What `any` or `all` means."""
        head = self.fit_head(node, scope, node.word)
        self.weigh(len(node.head.dotted) - 1, scope)
        inner = self.fit(node.inner, scope.inside(node.name.text, head.table))
        if node.word.text == "any":
            return Some(Walk(head.path, head.link, inner))
        return Opposite(Some(Walk(head.path, head.link, Opposite(inner))))

    def fit_head(self, node, scope, token):
        """The path of the head of a walk; its name is taken."""
        self.take_name(node.name)
        head = self.route_of(node.head, scope)
        self.need_list(head, scope, token)
        return head

    def fit_super(self, node, scope):
        """What the check of the next kind means; it may be asked once, and not within a walk."""
        body = self.following
        self.require(body is not None and not scope.around, node.word)
        self.following = None
        self.nest(body.walked, scope, node.word)
        self.weigh(1 + body.once, scope)
        self.twice += body.twice
        self.notes.extend(body.notes)
        return body.root

    def fit_listed(self, test, scope):
        """What `in` with square brackets means."""
        looped = test.other
        left = self.route_of(test.left, scope)
        head = self.fit_head(looped, scope, test.left)
        end = self.route_of(looped.end, scope.inside(looped.name.text, head.table))
        begins = looped.end.dotted[0] == looped.name.text
        fits = begins and left.link is None and end.link is None and left.meets(end)
        self.require(fits, test.left)
        names = len(test.left.dotted) + len(looped.head.dotted) + len(looped.end.dotted) - 3
        self.twice += names + 1
        self.note_alike(left, end)
        return Some(Walk(head.path, head.link, SameTest(left.path, end.path)))

    def fit_program(self, statements, scope):
        """What a whole check means."""
        return Program(self.fit_block(statements, scope))

    def fit_block(self, statements, scope):
        """What the statements of a block mean."""
        fitted = []
        for statement in statements:
            if isinstance(statement, Naming):
                route = self.fit_naming(statement, scope)
                fitted.append(Named(statement.name.line, route.path))
                scope = scope.naming(statement.name.text, route.path, route.table)
            else:
                fitted.append(self.fit_statement(statement, scope))
        return Block(fitted)

    def fit_naming(self, statement, scope):
        """Where the path of `NAME = path` leads."""
        name = statement.name
        self.take_name(name)
        route = self.route_of(statement.trail, scope)
        self.require(route.is_plain("row"), name)
        self.weigh(len(statement.trail.dotted) - 1, scope)
        return route

    def fit_statement(self, statement, scope):
        """What any other statement means."""
        if isinstance(statement, Looping):
            return self.fit_for(statement, scope)
        test = self.fit(statement.test, scope)
        if isinstance(statement, Branching):
            block = self.fit_block(statement.block, scope)
            otherwise = [] if statement.otherwise is None else statement.otherwise
            return If(statement.line, test, block, self.fit_block(otherwise, scope))
        if scope.around:
            self.fit_return(statement)
        return Return(statement.word.line, test)

    def fit_return(self, statement):
        """Check whether a `return` may stand within a `for`."""
        self.require(statement.bare, statement.word)
        truth = statement.test.truth
        self.require(self.given in (None, truth), statement.word)
        self.given = truth
        self.returns += 1

    def fit_for(self, statement, scope):
        """What a `for` with its block means."""
        if not scope.around:
            self.given = None
        before = self.returns
        head = self.fit_head(statement, scope, statement.word)
        self.weigh(len(statement.head.dotted) - 1, scope)
        block = self.fit_block(statement.block, scope.inside(statement.name.text, head.table))
        truth = self.given if self.returns > before else None
        return For(statement.word.line, Walk(head.path, head.link, Returning(block)), truth)


def check_body(schema, table, program, uses, following):
    """The body of a check that was read."""
    fitter = CheckFitter(schema, uses, following)
    return fitter.made_body(fitter.fit_program(program, first_scope(table, schema.user)))
