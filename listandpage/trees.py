"""Trees of cases: which facts they may ask, and when their leaves are right."""

from listandpage.basics import is_index
from listandpage.columns import is_link, may_lack
from listandpage.deciding import claims_on_answers
from listandpage.facts import Facts, first_facts
from listandpage.frames import words_of
from listandpage.routes import find_step


class Case:
    """What is known at a place of a tree.

    fresh: the new words that were answered, in order. clashed: whether an answer itself cannot be.
    """

    def __init__(self, facts, fresh, clashed):
        self.facts = facts
        self.fresh = fresh
        self.clashed = clashed

    def with_cell(self, row, place, value):
        """The same and what stands in a cell."""
        return Case(self.facts.with_cell(row, place, value), self.fresh, self.clashed)

    def with_new_row(self, row, place, table):
        """The same and a link to a row that was not named before."""
        known = self.facts.with_row(table).with_cell(row, place, len(self.facts.named))
        return Case(known, self.fresh, self.clashed)

    def with_new_word(self, row, place):
        """The same and a word in a cell that is none of those known before."""
        # A sign in front tells it from all words that may be written.
        word = f"?{len(self.fresh)}"
        return Case(self.facts.with_cell(row, place, word), self.fresh + (word,), self.clashed)

    def clashing(self):
        """The same with an answer that cannot be."""
        return Case(self.facts, self.fresh, True)


class Cases:
    """The cases of the trees for two rights."""

    def __init__(self, pair):
        self.schema = pair.schema
        self.table = pair.table
        self.places = pair.places
        self.roots = pair.roots
        self.notes = pair.notes
        self.words = written_words(pair.notes)

    def first_cases(self):
        """What is known at first: one case, or two where thing and user may be one row."""
        return [Case(facts, (), False) for facts in first_facts(self.table, self.schema.user)]

    def is_right(self, case, leaf, least):
        """Whether any value is a leaf that is right; so many rows are required to be enough, 0 if none are."""
        if isinstance(leaf, bool):
            return [root.claim(case.facts, case.facts.start, True) for root in self.roots] == [leaf, leaf]
        if not isinstance(leaf, str):
            return False
        if leaf == "clash":
            return case.clashed or False in claims_on_answers(case.facts)
        return leaf == "enough" and 0 < least <= len(case.facts.named)

    def split(self, case, tree):
        """The cases behind a tuple, each with its branch; None if it may not stand there."""
        if len(tree) != 4 or not isinstance(tree[0], str) or not isinstance(tree[3], tuple):
            return None
        behind = self.some_behind(case, tree) if tree[0] == "some" else self.cell_behind(case, tree)
        return list(zip(behind, tree[3])) if behind and len(behind) == len(tree[3]) else None

    def cell_behind(self, case, tree):
        """The cases behind the question for a cell or a link; none if it may not be asked."""
        kind, row, name = tree[0], tree[1], tree[2]
        if not is_index(row, len(case.facts.named)) or not isinstance(name, str):
            return []
        table = case.facts.named[row]
        step = find_step(self.schema, table, name)
        if step is None or (row, step.place) in case.facts.cells:
            return []
        column = self.schema.columns(table)[step.place]
        if column[0] != kind:
            return []
        if kind == "flag":
            return [case.with_cell(row, step.place, value) for value in (False, True)]
        if kind == "number":
            return self.number_behind(case, row, step)
        values = ([None] if may_lack(column) else []) + self.known_values(case, column)
        behind = [case.with_cell(row, step.place, value) for value in values]
        if is_link(column):
            return behind + [case.with_new_row(row, step.place, column[2])]
        return behind + [case.with_new_word(row, step.place)]

    def known_values(self, case, column):
        """The rows to which a link can lead, or the words that can stand in a cell, without new ones."""
        return case.facts.of_table(column[2]) if is_link(column) else self.words + list(case.fresh)

    def number_behind(self, case, row, step):
        """The cases behind the question for a number."""
        behind = []
        for number, gap in number_answers(written_numbers(self.notes, (step.table, step.column))):
            known = case.with_cell(row, step.place, number)
            behind.append(known.clashing() if gap else known)
        return behind

    def some_behind(self, case, tree):
        """The cases behind the question whether a row of a walk counts; none if it may not be asked."""
        rows = tree[2]
        if not is_index(tree[1], len(self.places)) or not isinstance(rows, tuple):
            return []
        walk, around = self.places[tree[1]]
        facts = case.facts
        if len(rows) != len(around):
            return []
        for row, outer in zip(rows, around):
            if not is_index(row, len(facts.named)) or facts.named[row] != outer.link.table:
                return []
        chosen = facts.start + rows
        base = walk.base.follow(facts, chosen)
        if base is None or isinstance(base, tuple) or (walk, chosen) in facts.answers:
            return []
        behind = [Case(facts.with_answer(walk, chosen, None), case.fresh, case.clashed)]
        behind.extend([counting(case, walk, chosen, row, base) for row in facts.of_table(walk.link.table)])
        grown = Case(facts.with_row(walk.link.table), case.fresh, case.clashed)
        return behind + [counting(grown, walk, chosen, len(facts.named), base)]


def written_words(notes):
    """The written words, ascending."""
    return sorted([str(word) for word in words_of(notes)])


def written_numbers(notes, cell):
    """The numbers that tests compare with a cell, ascending."""
    found = {note[2][1]: True for note in notes if note[0] == "number" and note[1] == cell}
    return sorted([int(number) for number in found])


def number_answers(written):
    """A number, as facts have it, for each answer where some numbers are written; and whether there is none such."""
    answers = [(Facts.SCALE * written[0] - 1, False)] if written else [(0, False)]
    for number in written:
        answers.append((Facts.SCALE * number, False))
        answers.append((Facts.SCALE * number + 1, number + 1 in written))
    return answers


def counting(case, walk, chosen, row, base):
    """The case in which a named row is in the list of a walk, that of base, and counts."""
    known = case.facts.with_answer(walk, chosen, row)
    place = walk.link.place
    if (row, place) not in known.cells:
        known = known.with_cell(row, place, base)
    return Case(known, case.fresh, case.clashed or known.cells[(row, place)] != base)
