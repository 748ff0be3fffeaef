"""Stores: the rows of the tables of a schema."""

from listandpage.basics import is_index, is_integer, is_word
from listandpage.columns import is_link, may_lack
from listandpage.errors import BadStore, Dangling, NoName, NoRow

# The first integer that has more than thirty digits.
TOO_LARGE = 10 ** 30


class Store:
    """The rows of each table, numbered from 0."""

    def __init__(self, schema, rows=None):
        self.schema = schema
        self._rows = {}
        given = {} if rows is None else rows
        for table in schema.tables:
            taken = list(given.get(table, []))
            for at, row in enumerate(taken):
                self._check_row(table, at, row)
            self._rows[table] = taken

    def _check_row(self, table, at, row):
        """Raise BadStore unless any value may be the row of the table with this index."""
        columns = self.schema.columns(table)
        if not isinstance(row, tuple) or len(row) != len(columns):
            raise BadStore(table, at, None)
        for column, value in zip(columns, row):
            if not self._fits(column, value):
                raise BadStore(table, at, column[1])

    def _fits(self, column, value):
        """Whether any value may stand in the column."""
        if value is None:
            return may_lack(column)
        if column[0] == "flag":
            return isinstance(value, bool)
        if column[0] == "number":
            return is_integer(value) and -TOO_LARGE < value < TOO_LARGE
        if column[0] == "word":
            return is_word(value)
        return is_index(value, len(self._rows[column[2]]))

    def _need_table(self, table):
        """Raise NoName unless any value is the name of a table."""
        if table not in self.schema:
            raise NoName(table)

    def _need_row(self, table, at):
        """Raise NoName or NoRow unless any two values are a table and a row of it."""
        self._need_table(table)
        if not is_index(at, len(self._rows[table])):
            raise NoRow(table, at)

    def _place(self, table, column):
        """The place in a row at which any value stands for a column, or NoName."""
        for place, known in enumerate(self.schema.columns(table)):
            if known[1] == column:
                return place
        raise NoName(column)

    def rows(self, table):
        """The rows of a table."""
        self._need_table(table)
        return list(self._rows[table])

    def value(self, table, at, column):
        """The value of a row in a column."""
        self._need_row(table, at)
        return self._rows[table][at][self._place(table, column)]

    def listed(self, table, at, name):
        """The indexes of the rows in a list of a row, ascending."""
        self._need_row(table, at)
        lists = self.schema.lists(table)
        if not isinstance(name, str) or name not in lists:
            raise NoName(name)
        maker, column = lists[name]
        place = self._place(maker, column)
        return [index for index, row in enumerate(self._rows[maker]) if row[place] == at]

    def add(self, table, row):
        """Add a row behind the others and return its index."""
        self._need_table(table)
        at = len(self._rows[table])
        self._check_row(table, at, row)
        self._rows[table].append(row)
        return at

    def change(self, table, at, column, value):
        """Change a single value."""
        self._need_row(table, at)
        place = self._place(table, column)
        if not self._fits(self.schema.columns(table)[place], value):
            raise BadStore(table, at, column)
        row = self._rows[table][at]
        self._rows[table][at] = row[:place] + (value,) + row[place + 1:]

    def copy(self):
        """A store with the same rows, which changes by itself."""
        return Store(self.schema, self._rows)

    def part(self, kept):
        """A store with the kept rows alone, numbered anew in the same order."""
        for table, indexes in kept.items():
            self._need_table(table)
            for at in indexes:
                self._need_row(table, at)
        numbers = {}
        for table in self.schema.tables:
            chosen = kept.get(table, [])
            stay = [at for at in range(len(self._rows[table])) if at in chosen]
            numbers[table] = {at: number for number, at in enumerate(stay)}
        rows = {}
        for table in self.schema.tables:
            rows[table] = [self._renumbered(table, at, numbers) for at in numbers[table]]
        return Store(self.schema, rows)

    def _renumbered(self, table, at, numbers):
        """A row with its links by the new numbers of the rows that are kept."""
        row = []
        for column, value in zip(self.schema.columns(table), self._rows[table][at]):
            if not is_link(column) or value is None:
                row.append(value)
            elif value in numbers[column[2]]:
                row.append(numbers[column[2]][value])
            else:
                raise Dangling(table, at, column[1])
        return tuple(row)

    def printed(self, table):
        """A text with the names of the columns and the rows of a table."""
        lines = [_print_line("", [column[1] for column in self.schema.columns(table)])]
        for at, row in enumerate(self._rows[table]):
            lines.append(_print_line(str(at), [_print_value(value) for value in row]))
        return "\n".join(lines)

    def __len__(self):
        return len([row for table in self.schema.tables for row in self._rows[table]])

    def __contains__(self, pair):
        if not isinstance(pair, tuple) or len(pair) != 2 or pair[0] not in self.schema:
            return False
        return is_index(pair[1], len(self._rows[pair[0]]))

    def __eq__(self, other):
        return isinstance(other, Store) and self.schema == other.schema and self._rows == other._rows


def _print_line(head, cells):
    """A line of a printed table."""
    return f"{head:>4}" + "".join([f"  {cell:>8}" for cell in cells])


def _print_value(value):
    """A value as a printed table shows it."""
    if value is None:
        return "-"
    if isinstance(value, bool):
        return "yes" if value else "no"
    return str(value)
