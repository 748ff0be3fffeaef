"""Questions about single values of any kind."""

MOST_LETTERS = 8


def is_integer(value):
    """Whether the value is an integer; a truth value is none."""
    return isinstance(value, int) and not isinstance(value, bool)


def is_index(value, count):
    """Whether the value is the index of one of so many rows."""
    return is_integer(value) and 0 <= value < count


def is_letters(value):
    """Whether the value is a string of one or more letters a to z."""
    return isinstance(value, str) and value.isascii() and value.isalpha() and value.islower()


def is_word(value):
    """Whether the value is a word: a string of one to eight letters a to z."""
    return is_letters(value) and len(value) <= MOST_LETTERS
