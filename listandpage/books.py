"""Books: rights of one schema under names."""

from listandpage.checks import Check
from listandpage.choosing import choices
from listandpage.deciding import find_escape, need_small
from listandpage.errors import BadCheck, BadName, BadQuestion, InBook, Mismatch, NoName
from listandpage.questions import Question
from listandpage.rights import any_of, nothing
from listandpage.schemas import Schema


class Book:
    """Rights under names, in the order in which the names came in."""

    def __init__(self, schema):
        self.schema = schema
        self._rights = {}

    def __setitem__(self, at, worth):
        need_name(at)
        if worth.schema != self.schema:
            raise Mismatch(-1)
        self._rights[at] = worth

    def __getitem__(self, at):
        if at not in self:
            raise NoName(at)
        return self._rights[at]

    def __contains__(self, name):
        return isinstance(name, str) and name in self._rights

    def __len__(self):
        return len(self._rights)

    def __iter__(self):
        return iter(self._rights)

    def names(self):
        """The names, in their order."""
        return list(self._rights)

    @classmethod
    def of(cls, schema, **rights):
        """A book with these rights under these names."""
        book = cls(schema)
        for name, right in rights.items():
            book[name] = right
        return book

    def question(self, name, table, text):
        """Put a question in that may use the rights that are here."""
        need_name(name)
        try:
            made = Question(self.schema, table, text, uses=self._rights)
        except BadQuestion as bad:
            raise InBook(name, 0, bad.at) from None
        self._rights[name] = made
        return made

    def check(self, name, table, text):
        """Put a check in that may use the rights that are here."""
        need_name(name)
        try:
            made = Check(self.schema, table, text, uses=self._rights)
        except BadCheck as bad:
            raise InBook(name, bad.line, bad.at) from None
        self._rights[name] = made
        return made

    def needless(self, *names):
        """The indexes of the rights that admit only what some right before them admits."""
        rights = self._chosen(names)
        found = []
        for at, right in enumerate(rights):
            if _all_in([right], rights[:at]):
                found.append(at)
        return found

    def covers(self, *names):
        """All smallest sets of indexes of rights that together admit what all of these admit."""
        rights = self._chosen(names)
        for size in range(len(rights) + 1):
            found = []
            for chosen in choices(len(rights), size):
                if _all_in(rights, [rights[index] for index in chosen]):
                    found.append(chosen)
            if found:
                return found
        return []

    def _chosen(self, names):
        """The rights of these names, if they can be compared."""
        for name in names:
            if name not in self:
                raise NoName(name)
        rights = [self._rights[name] for name in names]
        for at, right in enumerate(rights):
            if not right.meets(rights[0]):
                raise Mismatch(at)
        need_small([right.body for right in rights + rights])
        return rights


def need_name(name):
    """Raise BadName unless any value is a name."""
    if not Schema.is_name(name):
        raise BadName(name)


def _all_in(rights, others):
    """Whether each of some rights admits only what at least one of some others admits."""
    for right in rights:
        union = any_of(*others) if others else nothing(right.schema, right.table)
        if find_escape(right.schema, right.table, right.body, union.body) is not None:
            return False
    return True
