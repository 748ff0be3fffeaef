"""Fitting the texts of questions."""

from listandpage.claims import Certain, EqualTest, Opposite
from listandpage.fitting import Fitter
from listandpage.walking import Some, Walk, Within


class QuestionFitter(Fitter):
    """Goes through the text of a question, in which a test may be unknown."""

    def sealed(self, claim):
        """A test or use as it stands in a question."""
        return claim

    def equal(self, left, other):
        """The test whether two paths end in the same."""
        return EqualTest(left, other)

    def fit_walk(self, node, scope):
        """What `some` or `no` means."""
        head = self.route_of(node.head, scope)
        self.take_name(node.name)
        self.need_list(head, scope, node.word)
        self.weigh(len(node.head.dotted) - 1, scope)
        inner = self.fit(node.inner, scope.inside(node.name.text, head.table))
        some = Some(Walk(head.path, head.link, inner))
        return some if node.word.text == "some" else Opposite(some)

    def fit_listed(self, test, scope):
        """What `in` with a list means: two walks, which count as one test."""
        left = self.route_of(test.left, scope)
        other = self.route_of(test.other, scope)
        self.require(left.link is None and other.link is not None and left.meets(other), test.left)
        self.nest([other.link.table, other.link.table], scope, test.left)
        self.twice += len(test.left.dotted) + len(test.other.dotted) - 1
        self.note_alike(left, other)
        equal = EqualTest(left.path, scope.row_path().beyond(other.behind))
        not_false = Opposite(Certain(Opposite(equal)))
        return Within(Walk(other.path, other.link, equal), Walk(other.path, other.link, not_false))
