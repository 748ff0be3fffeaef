"""Showing what was planned: as a tree of cases, and as a store."""

from listandpage.columns import is_link, may_lack
from listandpage.facts import Facts
from listandpage.stores import Store
from listandpage.trees import number_answers, written_numbers, written_words


class Met:
    """The new words on the way to a place of a tree, and what stands for words in the plan.

    fresh: the new words, in order. standing: by the group of a cell and a word of the tree, the word of the plan.
    """

    def __init__(self, fresh, standing):
        self.fresh = fresh
        self.standing = standing

    def standing_for(self, group, word, standing, fresh):
        """The same with these new words, where a word of the plan stands for a word of the tree in a group of cells."""
        if group is None:
            return Met(fresh, self.standing)
        known = {key: self.standing[key] for key in self.standing}
        known[(group, word)] = standing
        return Met(fresh, known)


class Shower:
    """Shows plans as trees of cases, which have an answer for each word and number where plans have one for many."""

    def __init__(self, planner):
        self.frame = planner.frame
        self.schema = planner.pair.schema
        self.words = written_words(planner.pair.notes)
        self.notes = planner.pair.notes
        self.indexes = {place[0]: index for index, place in enumerate(planner.pair.places)}

    def show_first(self, plans):
        """The tree for the plans at the beginning."""
        trees = tuple([self.show(plan, Met((), {})) for plan in plans])
        return trees[0] if len(trees) == 1 else ("same", trees)

    def show(self, plan, met):
        """The tree for a plan."""
        if plan.leaf is not None:
            return plan.leaf
        if plan.fact[0] == "some":
            walk, chosen = plan.fact[1], plan.fact[2]
            branches = [self.show(below, met) for _, below in plan.behind]
            return ("some", self.indexes[walk], chosen[2:], tuple(branches))
        step, row = plan.fact[1], plan.fact[2]
        kind = self.schema.columns(step.table)[step.place][0]
        if kind == "word":
            branches = self.show_words(plan, step, met)
        elif kind == "number":
            branches = self.show_numbers(plan, step, met)
        else:
            branches = [self.show(below, met) for _, below in plan.behind]
        return (kind, row, step.column, tuple(branches))

    def show_words(self, plan, step, met):
        """The trees for the words of a cell."""
        cell = (step.table, step.column)
        group = self.frame.group(cell)
        used = plan.facts.used.get(group, {})
        behind = {answer: below for answer, below in plan.behind}
        branches = [self.show(behind[None], met)] if None in behind else []
        for word in [*self.words, *met.fresh]:
            standing = met.standing.get((group, word), None) or self.frame.stand_in(cell, word, used)
            branches.append(self.show(behind[standing], met.standing_for(group, word, standing, met.fresh)))
        # A sign in front tells a new word from all words that may be written.
        new = f"?{len(met.fresh)}"
        standing = self.frame.stand_in(cell, new, used)
        return branches + [self.show(behind[standing], met.standing_for(group, new, standing, met.fresh + (new,)))]

    def show_numbers(self, plan, step, met):
        """The trees for the numbers of a cell."""
        cell = (step.table, step.column)
        written = written_numbers(self.notes, cell)
        behind = {self.frame.compared_with(cell, answer): below for answer, below in plan.behind}
        branches = []
        for number, gap in number_answers(written):
            branches.append("clash" if gap else self.show(behind[self.frame.compared_with(cell, number)], met))
        return branches


def show_store(schema, facts):
    """The store of the named rows; any values stand where nothing was asked."""
    places = place_rows(facts)
    rows = {table: [] for table in schema.tables}
    for row, table in enumerate(facts.named):
        values = []
        for place, column in enumerate(schema.columns(table)):
            values.append(show_value(facts, places, (row, place), column))
        rows[table].append(tuple(values))
    return Store(schema, rows)


def place_rows(facts):
    """For each named row its index in its table."""
    return [len([table for table in facts.named[:row] if table == named]) for row, named in enumerate(facts.named)]


def show_value(facts, places, key, column):
    """What stands in a cell of the store."""
    value = facts.cells.get(key, None)
    if is_link(column):
        return None if value is None else places[value]
    if column[0] == "flag":
        return value is True
    if column[0] == "number":
        return 0 if value is None else value // Facts.SCALE
    return "a" if value is None and not may_lack(column) else value
