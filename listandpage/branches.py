"""Branches: the answers that a fact can have."""

from listandpage.columns import is_link, may_lack


def branches(frame, facts, fact):
    """What can be known behind the question for a fact: one for each answer."""
    if fact[0] == "some":
        return _answered(facts, fact[1], fact[2])
    step = fact[1]
    row = fact[2]
    column = frame.schema.columns(step.table)[step.place]
    lacking = [facts.with_cell(row, step.place, None)] if may_lack(column) else []
    if is_link(column):
        return lacking + _linked(facts, step, row, column[2])
    if column[0] == "flag":
        return [facts.with_cell(row, step.place, value) for value in (False, True)]
    if column[0] == "word":
        return lacking + _worded(frame, facts, step, row)
    numbers = frame.numbers_for((step.table, step.column))
    return [facts.with_cell(row, step.place, number) for number in numbers]


def _linked(facts, step, row, table):
    """The rows to which a link can lead: those that are named, and a new one."""
    found = [facts.with_cell(row, step.place, base) for base in facts.of_table(table)]
    grown = facts.with_row(table)
    return found + [grown.with_cell(row, step.place, len(facts.named))]


def _worded(frame, facts, step, row):
    """The words that can stand in a cell."""
    cell = (step.table, step.column)
    group = frame.group(cell)
    found = []
    for word in frame.words_for(cell, facts.used.get(group, {})):
        known = facts.with_cell(row, step.place, word)
        found.append(known if group is None else known.with_word(group, word))
    return found


def _answered(facts, walk, chosen):
    """Whether a row of a walk counts: none, one that is named, or a new one."""
    base = walk.base.follow(facts, chosen)
    link = walk.link
    found = [facts.with_answer(walk, chosen, None)]
    for row in facts.of_table(link.table):
        if facts.cells.get((row, link.place), base) == base:
            found.append(facts.with_cell(row, link.place, base).with_answer(walk, chosen, row))
    grown = facts.with_row(link.table).with_cell(len(facts.named), link.place, base)
    return found + [grown.with_answer(walk, chosen, len(facts.named))]
