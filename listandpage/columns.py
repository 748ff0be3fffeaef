"""What a single right column of a schema tells."""


def is_link(column):
    """Whether the column links to rows of an earlier table."""
    return column[0] == "link"


def has_list(column):
    """Whether the column is a link from which the rows of its table get a list."""
    return is_link(column) and column[4] is not None


def may_lack(column):
    """Whether None may stand in the column."""
    if is_link(column):
        return column[3]
    return column[0] == "word" and column[2]


def filled_column(column):
    """The same column without the leave to lack."""
    if is_link(column):
        return ("link", column[1], column[2], False, column[4])
    if column[0] == "word":
        return ("word", column[1], False)
    return column
