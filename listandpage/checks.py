"""Checks: rights that are written as programs, as the page of a thing is opened."""

from listandpage.check_fitting import CheckFitter
from listandpage.check_texts import CheckText
from listandpage.errors import BadCheck, NoName
from listandpage.rights import Right
from listandpage.scopes import first_scope
from listandpage.tokens import Fault


class Check(Right):
    """A right that is written as a check."""

    def __init__(self, schema, table, text, *, uses=None):
        if table not in schema:
            raise NoName(table)
        fitter = CheckFitter(schema, {} if uses is None else uses)
        try:
            self._read = CheckText(text)
            root = fitter.fit_program(self._read.program, first_scope(table, schema.user))
        except Fault as fault:
            raise BadCheck(fault.line, fault.at) from None
        Right.__init__(self, schema, table, fitter.made_body(root))
        self.text = text

    def tests(self):
        """The tests, as they are spelled."""
        return list(self._read.tests_spelled)

    def __str__(self):
        return str(self._read.spelled)
