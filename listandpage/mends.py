"""Mends: tests that are turned or guarded, and which of them make two spellings alike."""

from listandpage.basics import is_index
from listandpage.checks import Check
from listandpage.choosing import choices
from listandpage.deciding import need_small
from listandpage.errors import BadMend
from listandpage.judging import judge
from listandpage.questions import Question
from listandpage.tokens import spell

MOST_MENDS = 4
KINDS = ("turn", "guard")


def is_mend(right, mend):
    """Whether any value is a mend of a question or check."""
    if not isinstance(mend, tuple) or len(mend) != 2:
        return False
    return isinstance(mend[0], str) and mend[0] in KINDS and is_index(mend[1], len(right.tests()))


def mended(right, mends):
    """The question or check with some mends."""
    known = {}
    for at, mend in enumerate(mends):
        if not is_mend(right, mend) or mend in known:
            raise BadMend(at)
        known[mend] = True
    lines = []
    count = 0
    for line in right.source.lines_read:
        lines.append(mended_line(line, count, known, isinstance(right, Question)))
        count += len(line.tests_read)
    text = "\n".join(lines)
    if isinstance(right, Question):
        return Question(right.schema, right.table, text, uses=right.uses)
    return Check(right.schema, right.table, text, uses=right.uses)


def mended_line(line, before, mends, asking):
    """A line of a question, if it is asking, or of a check with its mends; so many tests stand before it."""
    pieces = []
    behind = 0
    for index, test in enumerate(line.tests_read, start=before):
        text = line.test_spelled(test)
        if ("turn", index) in mends:
            text = f"( not ( {text} ) )"
        if ("guard", index) in mends:
            text = guarded(text, test, asking)
        pieces.extend([spell(line.tokens[behind:test.left.place]), text])
        behind = test.end
    pieces.append(spell(line.tokens[behind:]))
    return " " * line.width + " ".join([piece for piece in pieces if piece])


def guarded(text, test, asking):
    """The text of a test with a guard."""
    trails = [test.left, test.other] if test.form == "paths" else [test.left]
    guards = []
    for trail in trails:
        path = ".".join(trail.dotted)
        guards.append(f"not {path} lacks" if asking else f"{path} is not None")
    return f"( {text} and " + " and ".join(guards) + " )"


class Mending:
    """The least sets of a pool that mend two rights, and the verdicts on all sets with fewer members."""

    def __init__(self, least, lesser):
        self.least = tuple(least)
        self.lesser = tuple(lesser)

    def __bool__(self):
        return bool(self.least)


def least_mends(one, two, pool):
    """Try the sets of a pool of mends for two rights, until some of one size mend."""
    one.need_meeting(two)
    need_pool([one, two], pool)
    every = tuple(range(len(pool)))
    need_small([right.body for right in mended_by([one, two], pool, every)])
    lesser = []
    for size in range(len(pool) + 1):
        tried = [(chosen, judge_mended([one, two], pool, chosen)) for chosen in choices(len(pool), size)]
        least = [chosen for chosen, verdict in tried if verdict.way is None]
        if least:
            return Mending(least, lesser)
        lesser.extend(tried)
    return Mending([], lesser)


def need_pool(rights, pool):
    """Raise BadMend unless this is a pool for two rights."""
    if len(pool) > MOST_MENDS:
        raise BadMend(-1)
    known = {}
    for at, entry in enumerate(pool):
        if not is_entry(rights, entry) or entry in known:
            raise BadMend(at)
        known[entry] = True


def is_entry(rights, entry):
    """Whether any value is a side and a mend of the right on this side."""
    if not isinstance(entry, tuple) or len(entry) != 3 or not is_index(entry[0], len(rights)):
        return False
    return is_mend(rights[entry[0]], entry[1:])


def mended_by(rights, pool, chosen):
    """Both rights with the chosen mends of a pool."""
    found = []
    for side, right in enumerate(rights):
        found.append(mended(right, [pool[index][1:] for index in chosen if pool[index][0] == side]))
    return found


def judge_mended(rights, pool, chosen):
    """The verdict on both rights with the chosen mends of a pool."""
    one, two = mended_by(rights, pool, chosen)
    return judge(one, two)
