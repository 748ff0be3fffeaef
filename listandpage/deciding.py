"""Deciding whether one right admits all that another one admits."""

from listandpage.branches import branches
from listandpage.errors import TooMany
from listandpage.facts import first_facts
from listandpage.frames import Frame, words_of

MOST_LOAD = 24
MOST_WORDS = 4


def need_small(bodies):
    """Raise TooMany if rights of these bodies are too heavy to be decided, or write too many words."""
    if sum([body.load() for body in bodies]) > MOST_LOAD:
        raise TooMany("weight")
    if len(words_of([note for body in bodies for note in body.notes])) > MOST_WORDS:
        raise TooMany("words")


def find_escape(schema, table, one, two):
    """Facts by which the right of one body admits and that of the other does not, None without any."""
    frame = Frame(schema, one.notes + two.notes)
    waiting = list(first_facts(table, schema.user))
    while waiting:
        facts = waiting.pop()
        fact = next_fact(facts, one.root, two.root)
        if fact == "found":
            return facts
        if fact != "closed":
            waiting.extend(branches(frame, facts, fact))
    return None


def next_fact(facts, one, two):
    """What is to be asked next; "closed" if nothing can come of these facts, "found" if all is settled."""
    holds = one.claim(facts, facts.start, True)
    if holds is False:
        return "closed"
    refuses = two.claim(facts, facts.start, True)
    if refuses is True:
        return "closed"
    first, last = unsettled(facts)
    if "closed" in (first, last):
        return "closed"
    for fact in (first, holds, refuses, last):
        if isinstance(fact, tuple):
            return fact
    return "found"


def unsettled(facts):
    """The first facts for which rows wait that were answered to count, and rows of lists in which none does.

    "closed" stands for a row that is settled to be otherwise, and None for nothing to ask.
    """
    first = None
    last = None
    for walk, chosen in facts.answers:
        row = facts.answers[(walk, chosen)]
        if row is not None:
            told = walk.content.claim(facts, chosen + (row,), True)
            if told is False:
                return "closed", None
            first = told if first is None and isinstance(told, tuple) else first
            continue
        for other in facts.linked(walk.link, walk.base.follow(facts, chosen)):
            told = walk.content.claim(facts, chosen + (other,), True)
            if told is True:
                return None, "closed"
            last = told if last is None and isinstance(told, tuple) else last
    return first, last
