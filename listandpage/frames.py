"""Frames: which values are to be told apart in the cells that tests compare.

Notes tell what tests compare: ("word", cell, word), ("number", cell, number) and
("alike", cell, cell). A cell is a pair of a table and a column.
"""

LETTERS = "abcdefghijklmnopqrstuvwxyz"


class Frame:
    """A schema, and what the tests of some rights compare with the cells of its stores."""

    def __init__(self, schema, notes):
        self.schema = schema
        self.groups = find_groups(notes)
        self.written = find_written(notes, self.groups)
        self.compared = find_compared(notes)
        known = words_of(notes)
        # More words than these are not needed, as no store has so many rows.
        self.spare = [one + two for one in LETTERS for two in LETTERS if one + two not in known]

    def words_for(self, cell, used):
        """The words to be told apart in a cell, if so many that are not written are in use in its group."""
        group = self.groups.get(cell, cell)
        many = used + 1 if cell in self.groups else 1
        return self.written.get(group, []) + self.spare[:many]

    def numbers_for(self, cell):
        """A number for each way to be one of those that are written, or to lie between them."""
        known = self.compared.get(cell, [])
        found = [known[0] - 1] if known else [0]
        for number in known:
            found = found + [each for each in (number, number + 1) if each not in found]
        return found


def words_of(notes):
    """The written words, as the keys of a dict."""
    return {note[2]: True for note in notes if note[0] == "word"}


def find_groups(notes):
    """For each cell that is compared with others one of these, the same for all that are joined so."""
    groups = {}
    for note in notes:
        if note[0] == "alike":
            kept = groups.get(note[1], note[1])
            merged = groups.get(note[2], note[2])
            groups = {cell: kept if groups[cell] == merged else groups[cell] for cell in groups}
            groups[note[1]] = kept
            groups[note[2]] = kept
    return groups


def find_written(notes, groups):
    """For each group the words that are compared with one of its cells."""
    written = {}
    for note in notes:
        if note[0] == "word":
            group = groups.get(note[1], note[1])
            known = written.get(group, [])
            written[group] = known if note[2] in known else known + [note[2]]
    return written


def find_compared(notes):
    """For each cell the numbers that are compared with it, ascending."""
    compared = {}
    for note in notes:
        if note[0] == "number":
            known = compared.get(note[1], [])
            less = [number for number in known if number < note[2]]
            more = [number for number in known if number > note[2]]
            compared[note[1]] = less + [note[2]] + more
    return compared
