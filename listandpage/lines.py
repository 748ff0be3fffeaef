"""Schemas written in lines."""

from listandpage.basics import is_letters
from listandpage.columns import has_list, is_link, may_lack
from listandpage.errors import BadLine


def write_lines(user, columns):
    """The lines of a schema: columns is a dict from the tables to their columns."""
    lines = [f"user {user}"]
    for table in columns:
        lines.append(f"table {table}")
        lines.extend([_write_column(column) for column in columns[table]])
    return lines


def _write_column(column):
    """The line of a column."""
    mark = "?" if may_lack(column) else ""
    line = f"{column[0]} {column[1]}{mark}"
    if is_link(column):
        line = f"{line} to {column[2]}"
    if has_list(column):
        line = f"{line} as {column[4]}"
    return line


def read_lines(text):
    """The user table and the tables with their columns that the lines of a text tell.

    Whether the names are right, and how many there may be, is left to the schema.
    """
    if not isinstance(text, str):
        raise BadLine(-1)
    lines = [line.split(" ") for line in text.split("\n")]
    if not _is_head("user", lines[0]):
        raise BadLine(0)
    tables = []
    for at, words in enumerate(lines[1:], start=1):
        if _is_head("table", words):
            tables.append((words[1], []))
            continue
        column = _read_column(words)
        if column is None or not tables:
            raise BadLine(at)
        tables[-1][1].append(column)
    return lines[0][1], tables


def _is_head(word, words):
    """Whether the words of a line are this word and letters behind it."""
    return len(words) == 2 and words[0] == word and is_letters(words[1])


def _read_column(words):
    """The column that the words of a line tell, None if they tell none."""
    if words[0] in ("flag", "number"):
        return (words[0], words[1]) if _is_head(words[0], words) else None
    if words[0] not in ("word", "link") or len(words) < 2:
        return None
    name = words[1].removesuffix("?")
    if not is_letters(name):
        return None
    if words[0] == "link":
        return _read_link(name, name != words[1], words)
    return ("word", name, name != words[1]) if len(words) == 2 else None


def _read_link(name, optional, words):
    """The link of this name that the words of a line tell, None if they tell none."""
    if len(words) not in (4, 6) or words[2] != "to" or not is_letters(words[3]):
        return None
    if len(words) == 4:
        return ("link", name, words[3], optional, None)
    if words[4] != "as" or not is_letters(words[5]):
        return None
    return ("link", name, words[3], optional, words[5])
