"""Choosing some of many."""


def choices(count, size):
    """All sets of so many of the first indexes, ascending, each an ascending tuple."""
    found = [()]
    for _ in range(size):
        found = [chosen + (index,) for chosen in found for index in range(next_index(chosen), count)]
    return found


def next_index(chosen):
    """The first index that may stand behind those of an ascending tuple."""
    return chosen[-1] + 1 if chosen else 0
