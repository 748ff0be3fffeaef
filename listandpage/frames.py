"""Frames: which values are to be told apart in the cells that tests compare.

Notes tell what tests compare: ("words", cell, words), ("number", cell, (sign, number)) and
("alike", cell, cell). A cell is a pair of a table and a column.
"""

from listandpage.claims import compares
from listandpage.facts import Facts

LETTERS = "abcdefghijklmnopqrstuvwxyz"


class Frame:
    """A schema, and what the tests of some rights compare with the cells of its stores."""

    def __init__(self, schema, notes):
        self.schema = schema
        self.groups = find_groups(notes)
        self.sorts = find_sorts(notes, self.groups)
        self.compared = gathered([note for note in notes if note[0] == "number"], {})
        known = words_of(notes)
        # More words than these are not needed, as no store has so many rows.
        self.spare = [one + two for one in LETTERS for two in LETTERS if one + two not in known]

    def group(self, cell):
        """What a cell is compared with: a cell of its group, None if it is compared with no other one."""
        return self.groups.get(cell)

    def words_for(self, cell, used):
        """The words to be told apart in a cell, where some are in use in its group.

        Of the words of one sort only those that are in use differ from one another.
        """
        found = []
        for words in self.sorts_of(cell):
            found = found + [word for word in words if word in used] + first_unused(words, used)
        others = [word for word in used if word not in found]
        return found + others + first_unused(self.spare, used)

    def sorts_of(self, cell):
        """The lists of written words that tests tell apart in a cell."""
        return self.sorts.get(self.groups.get(cell, cell), [])

    def stand_in(self, cell, word, used):
        """Of the words to be told apart in a cell that of the sort of a word, where the word is not in use."""
        for words in self.sorts_of(cell):
            if word in words:
                return first_unused(words, used)[0]
        return first_unused(self.spare, used)[0]

    def count_alike(self, cell, word, used):
        """How many words of the sort of a word are not in use, if this one is not."""
        if word in used:
            return 1
        for words in self.sorts_of(cell):
            if word in words:
                return len([other for other in words if other not in used])
        return 1

    def numbers_for(self, cell):
        """A number, as facts have it, for each way in which the tests can come out."""
        tests = self.compared.get(cell, [])
        found = {}
        for number in [0] + [test[1] + more for test in tests for more in (-1, 0, 1)]:
            told = self.compared_with(cell, number * Facts.SCALE)
            if told not in found:
                found[told] = number * Facts.SCALE
        return list(found.values())

    def compared_with(self, cell, number):
        """How the tests come out for a number in a cell, as facts have it."""
        return tuple([compares(number, sign, other * Facts.SCALE) for sign, other in self.compared.get(cell, [])])


def first_unused(words, used):
    """The first of some words that is not in use, in a list; an empty one if all are."""
    for word in words:
        if word not in used:
            return [word]
    return []


def words_of(notes):
    """The written words, as the keys of a dict."""
    return {word: True for note in notes if note[0] == "words" for word in note[2]}


def find_groups(notes):
    """For each cell that is compared with others one of these, the same for all that are joined so."""
    groups = {}
    for note in notes:
        if note[0] == "alike":
            kept = groups.get(note[1], note[1])
            merged = groups.get(note[2], note[2])
            groups = {cell: kept if groups[cell] == merged else groups[cell] for cell in groups}
            groups[note[1]] = kept
            groups[note[2]] = kept
    return groups


def gathered(notes, groups):
    """What the notes tell behind their cells, by the groups of these."""
    found = {}
    for note in notes:
        group = groups.get(note[1], note[1])
        found[group] = found.get(group, []) + [note[2]]
    return found


def find_sorts(notes, groups):
    """For each group its written words in lists: those that the same tests name are of one sort."""
    tests = gathered([note for note in notes if note[0] == "words"], groups)
    found = {}
    for group in tests:
        sorts = {}
        for word in {word: True for words in tests[group] for word in words}:
            told = tuple([word in words for words in tests[group]])
            sorts[told] = sorts.get(told, []) + [word]
        found[group] = list(sorts.values())
    return found
