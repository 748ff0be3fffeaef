"""The errors of the package, each with the fields that it is made with."""


class ListandpageError(ValueError):
    """What the errors about texts, schemas, stores and rights have in common."""


class BadSchema(ListandpageError):
    """No schema: the first wrong place, a table and a column by their indexes."""

    def __init__(self, table, column):
        self.table = table
        self.column = column


class BadLine(ListandpageError):
    """No schema written in lines: the first wrong line."""

    def __init__(self, line):
        self.line = line


class BadStore(ListandpageError):
    """No row of the table: its index, and the name of the first wrong column."""

    def __init__(self, table, at, column):
        self.table = table
        self.at = at
        self.column = column


class Dangling(ListandpageError):
    """A kept row with a link, in this column, to a row that is not kept."""

    def __init__(self, table, at, column):
        self.table = table
        self.at = at
        self.column = column


class BadQuestion(ListandpageError):
    """No question: the position of the first fault."""

    def __init__(self, at):
        self.at = at


class BadCheck(ListandpageError):
    """No check: the line of the first fault and the position in this line."""

    def __init__(self, line, at):
        self.line = line
        self.at = at


class InBook(ListandpageError):
    """A text in a book that is wrong: the name of the right and the place."""

    def __init__(self, name, line, at):
        self.name = name
        self.line = line
        self.at = at


class BadMend(ListandpageError):
    """No mend: its index among those that were passed."""

    def __init__(self, at):
        self.at = at


class BadKind(ListandpageError):
    """No kind of a family."""

    def __init__(self, name):
        self.name = name


class BadName(ListandpageError):
    """No name for a right in a book."""

    def __init__(self, name):
        self.name = name


class Mismatch(ListandpageError):
    """Things of different schemas or tables: the index of the first that differs."""

    def __init__(self, at):
        self.at = at


class TooMany(ListandpageError):
    """More than can be decided: of what."""

    def __init__(self, what):
        self.what = what


class NoName(LookupError):
    """Nothing has this name here."""

    def __init__(self, name):
        self.name = name


class NoRow(LookupError):
    """The table has no row with this index."""

    def __init__(self, table, at):
        self.table = table
        self.at = at
