"""Checks: rights that are written as programs, as the page of a thing is opened."""

from listandpage.check_fitting import check_body
from listandpage.check_texts import CheckText
from listandpage.errors import BadCheck, NoName
from listandpage.rights import Right
from listandpage.tokens import Fault


class Check(Right):
    """A right that is written as a check."""

    def __init__(self, schema, table, text, *, uses=None):
        if table not in schema:
            raise NoName(table)
        if not isinstance(text, str):
            raise BadCheck(-1, -1)
        self.uses = {} if uses is None else dict(uses)
        self.source = CheckText(text)
        try:
            body = check_body(schema, table, self.source.read_whole(), self.uses, None)
        except Fault as fault:
            raise BadCheck(fault.line, self.source.position(fault.line, fault.place)) from None
        Right.__init__(self, schema, table, body)
        self.text = text

    def tests(self):
        """The tests, as they are spelled."""
        return [test for line in self.source.lines_read for test in line.tests_spelled()]

    def __str__(self):
        return "\n".join([line.spelled() for line in self.source.lines_read])
