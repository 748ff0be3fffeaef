"""Branches: the answers that a fact can have, and what is then known."""

from listandpage.columns import is_link, may_lack


def branches(frame, facts, fact):
    """Pairs of an answer to the question for a fact, and what is then known; None if it cannot be.

    They stand in the order of a tree of cases, but of words and numbers that no test tells apart there is one.
    """
    if fact[0] == "some":
        return _answered(facts, fact[1], fact[2])
    step = fact[1]
    row = fact[2]
    column = frame.schema.columns(step.table)[step.place]
    if is_link(column):
        return _linked(facts, step, row, column)
    if column[0] == "word":
        return _worded(frame, facts, step, row, column)
    told = (False, True) if column[0] == "flag" else frame.numbers_for((step.table, step.column))
    return [(value, facts.with_cell(row, step.place, value)) for value in told]


def _linked(facts, step, row, column):
    """The rows to which a link can lead: those that are named, and a new one."""
    bases = ([None] if may_lack(column) else []) + facts.of_table(column[2])
    found = [(base, facts.with_cell(row, step.place, base)) for base in bases]
    fresh = len(facts.named)
    return found + [(fresh, facts.with_row(column[2]).with_cell(row, step.place, fresh))]


def _worded(frame, facts, step, row, column):
    """The words that can stand in a cell."""
    cell = (step.table, step.column)
    group = frame.group(cell)
    found = []
    if may_lack(column):
        found.append((None, facts.with_cell(row, step.place, None)))
    for word in frame.words_for(cell, facts.used.get(group, {})):
        known = facts.with_cell(row, step.place, word)
        found.append((word, known if group is None else known.with_word(group, word)))
    return found


def _answered(facts, walk, chosen):
    """Whether a row of a walk counts: none, one that is named, or a new one."""
    base = walk.base.follow(facts, chosen)
    link = walk.link
    found = [(None, facts.with_answer(walk, chosen, None))]
    for row in facts.of_table(link.table):
        known = None
        if facts.cells.get((row, link.place), base) == base:
            known = facts.with_cell(row, link.place, base).with_answer(walk, chosen, row)
        found.append((row, known))
    fresh = len(facts.named)
    grown = facts.with_row(link.table).with_cell(fresh, link.place, base)
    return found + [(fresh, grown.with_answer(walk, chosen, fresh))]
