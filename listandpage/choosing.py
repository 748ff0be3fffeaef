"""Choosing some of many."""


def choices(count, size):
    """All sets of so many of the first indexes, ascending, each an ascending tuple."""
    found = [()]
    for _ in range(size):
        longer = []
        for chosen in found:
            begin = chosen[-1] + 1 if chosen else 0
            longer.extend([chosen + (index,) for index in range(begin, count)])
        found = longer
    return found
