"""Deciding whether one right admits all that another one admits."""

from listandpage.branches import branches
from listandpage.claims import inverted
from listandpage.errors import TooMany
from listandpage.facts import first_facts
from listandpage.frames import Frame, words_of

MOST_LOAD = 24
MOST_WORDS = 4


def need_small(bodies):
    """Raise TooMany if rights of these bodies are too heavy to be decided, or write too many words."""
    if sum([body.load() for body in bodies]) > MOST_LOAD:
        raise TooMany("weight")
    if len(words_of([note for body in bodies for note in body.notes])) > MOST_WORDS:
        raise TooMany("words")


def find_escape(schema, table, one, two):
    """Facts by which the right of one body admits and that of the other does not, None without any."""
    frame = Frame(schema, one.notes + two.notes)
    roots = (one.root, two.root)
    waiting = still_open(list(first_facts(table, schema.user)), roots)
    while waiting:
        facts, asked = waiting[-1]
        if not asked:
            return facts
        waiting = waiting[:-1] + fewest_branches(frame, facts, asked, roots)
    return None


def fewest_branches(frame, facts, asked, roots):
    """The open branches of the fact that leaves fewest of them."""
    least = None
    for fact in asked:
        known = [pair[1] for pair in branches(frame, facts, fact) if pair[1] is not None]
        found = still_open(known, roots)
        if least is None or len(found) < len(least):
            least = found
        if len(least) < 2:
            return least
    return least


def still_open(found, roots):
    """Pairs of the facts of which something can come, and what is to be asked behind them."""
    pairs = [(facts, asked_next(facts, roots[0], roots[1])) for facts in found]
    return [pair for pair in pairs if pair[1] is not None]


def asked_next(facts, one, two):
    """What is waited for, nothing if all is settled; None if nothing can come of these facts."""
    admits = one.claim(facts, facts.start, True)
    if admits is False:
        return None
    refuses = two.claim(facts, facts.start, True)
    if refuses is True:
        return None
    told = claims_on_answers(facts)
    if False in told:
        return None
    return distinct([fact for each in [admits, refuses, *told] if isinstance(each, tuple) for fact in each])


def distinct(waiting):
    """The facts without those that stand there before."""
    found = {}
    for fact in waiting:
        key = (fact[2], fact[1].place) if fact[0] == "cell" else (fact[1], fact[2])
        if key not in found:
            found[key] = fact
    return list(found.values())


def claims_on_answers(facts):
    """What is settled of the rows that were answered to count, and of those of which none was to count."""
    told = []
    for walk, chosen in facts.answers:
        row = facts.answers[(walk, chosen)]
        if row is not None:
            told.append(walk.content.claim(facts, chosen + (row,), True))
        else:
            rows = facts.linked(walk.link, walk.base.follow(facts, chosen))
            told.extend([inverted(walk.content.claim(facts, chosen + (other,), True)) for other in rows])
    return told
