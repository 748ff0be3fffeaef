"""Questions: rights that are written as conditions, as a list is filtered."""

from listandpage.errors import BadQuestion, NoName
from listandpage.question_fitting import QuestionFitter
from listandpage.question_texts import QuestionText
from listandpage.rights import Right
from listandpage.scopes import first_scope
from listandpage.tokens import Fault
from listandpage.worlds import StoreWorld


class Question(Right):
    """A right that is written as a question. A question may be unknown."""

    def __init__(self, schema, table, text, *, uses=None):
        if table not in schema:
            raise NoName(table)
        if not isinstance(text, str):
            raise BadQuestion(-1)
        self.uses = {} if uses is None else dict(uses)
        self.source = QuestionText(text)
        fitter = QuestionFitter(schema, self.uses)
        try:
            root = fitter.fit(self.source.read_whole(), first_scope(table, schema.user))
        except Fault as fault:
            raise BadQuestion(self.source.position(fault.line, fault.place)) from None
        Right.__init__(self, schema, table, fitter.made_body(root))
        self.text = text

    def value(self, store, thing, user):
        """True, False, or None if it is unknown."""
        self.need_place(store, [(self.table, thing), (self.schema.user, user)])
        world = StoreWorld(store)
        if self.body.root.claim(world, (thing, user), True):
            return True
        return False if self.body.root.claim(world, (thing, user), False) else None

    def tests(self):
        """The tests, as they are spelled."""
        return [test for line in self.source.lines_read for test in line.tests_spelled()]

    def __str__(self):
        return "\n".join([line.spelled() for line in self.source.lines_read])
