"""Schemas: tables, their columns, and the lists that links make."""

from listandpage.basics import is_word
from listandpage.columns import filled_column, has_list, is_link
from listandpage.errors import BadSchema, NoName
from listandpage.lines import read_lines, write_lines

MOST_TABLES = 6
MOST_COLUMNS = 6
RESERVED = (
    "all", "and", "any", "as", "else", "false", "for", "if", "in", "is", "lacks", "no",
    "not", "or", "return", "some", "super", "thing", "true", "user",
)
LENGTHS = {"flag": 2, "number": 2, "word": 3, "link": 5}


class Schema:
    """The tables of a store, and which of them the users are in; it never changes."""

    def __init__(self, user, tables):
        if not 1 <= len(tables) <= MOST_TABLES:
            raise BadSchema(-1, -1)
        self._columns = {}
        self._lists = {}
        meeting = {}
        for index, (name, columns) in enumerate(tables):
            if not Schema.is_name(name) or name in self._columns or len(columns) > MOST_COLUMNS:
                raise BadSchema(index, -1)
            self._take_columns(index, name, columns)
            meeting[name] = _meets(index, self._columns[name], meeting)
        if user not in self:
            raise BadSchema(len(tables), -1)
        self.user = user
        self.tables = tuple(self._columns)
        self._lines = write_lines(user, self._columns)

    def _take_columns(self, index, table, columns):
        """Add the columns of a table and the lists that its links make."""
        taken = []
        for at, column in enumerate(columns):
            if not self._is_column(column, [earlier[1] for earlier in taken]):
                raise BadSchema(index, at)
            if has_list(column):
                self._lists[column[2]][column[4]] = (table, column[1])
            taken.append(column)
        self._columns[table] = tuple(taken)
        self._lists[table] = {}

    def _is_column(self, column, names):
        """Whether any value is a column that may stand behind columns of these names."""
        if not isinstance(column, tuple) or len(column) < 2 or not isinstance(column[0], str):
            return False
        if LENGTHS.get(column[0], 0) != len(column):
            return False
        if not Schema.is_name(column[1]) or column[1] in names:
            return False
        if is_link(column):
            return column[2] in self and isinstance(column[3], bool) and self._is_list(column[2], column[4])
        return column[0] != "word" or isinstance(column[2], bool)

    def _is_list(self, table, name):
        """Whether any value is None or the name of a list that the table may get."""
        if name is None:
            return True
        names = [column[1] for column in self._columns[table]]
        return Schema.is_name(name) and name not in names and name not in self._lists[table]

    def columns(self, table):
        """The columns of a table, as they were passed."""
        if table not in self:
            raise NoName(table)
        return self._columns[table]

    def lists(self, table):
        """The lists of a table, each with the table and the column that make it."""
        if table not in self:
            raise NoName(table)
        return dict(self._lists[table])

    def filled(self):
        """The same schema without optional columns."""
        tables = []
        for table in self.tables:
            tables.append((table, [filled_column(column) for column in self._columns[table]]))
        return Schema(self.user, tables)

    @classmethod
    def read(cls, text):
        """The schema that a text tells in lines."""
        user, tables = read_lines(text)
        return cls(user, tables)

    @staticmethod
    def is_name(value):
        """Whether any value is a name: a word that is not reserved."""
        return is_word(value) and value not in RESERVED

    def __len__(self):
        return len(self.tables)

    def __contains__(self, thing):
        return isinstance(thing, str) and thing in self._columns

    def __eq__(self, other):
        return isinstance(other, Schema) and self._lines == other._lines

    def __str__(self):
        return "\n".join(self._lines)


def _meets(index, columns, meeting):
    """Whether the table of these columns is listed or leads to a listed one.

    meeting tells the same of the tables ahead of it. A listed table that leads to
    a listed one must do so by its only link with a list: otherwise BadSchema.
    """
    makers = [column for column in columns if has_list(column)]
    leading = [column for column in columns if is_link(column) and meeting[column[2]]]
    for at, column in enumerate(columns):
        if makers and column in leading and makers != [column]:
            raise BadSchema(index, at)
    return bool(makers) or bool(leading)
