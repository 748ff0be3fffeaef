"""Judging: whether two rights are alike, and a least store on which they part."""

from listandpage.deciding import need_small
from listandpage.pairs import Pair
from listandpage.planning import Planner
from listandpage.rights import nothing
from listandpage.showing import Shower, place_rows, show_store


class Verdict:
    """What was decided of two rights: a tree of cases, and facts by which they part, None if they are alike."""

    def __init__(self, pair, tree, facts):
        self.way = None
        self._tree = tree
        self._schema = pair.schema
        self._facts = facts
        if facts is not None:
            admits = pair.roots[0].claim(facts, facts.start, True)
            self.way = "first" if admits is True else "second"

    def certificate(self):
        """What shows it: a tree, or a store, a thing and a user, and a tree for as many rows."""
        if self._facts is None:
            return ("alike", self._tree)
        store = show_store(self._schema, self._facts)
        places = place_rows(self._facts)
        thing, user = [places[row] for row in self._facts.start]
        return ("part", store, thing, user, self._tree)

    def __len__(self):
        return len([] if self._facts is None else self._facts.named)

    def __bool__(self):
        return self._facts is None


def judge(one, two):
    """Decide whether two rights admit the same for every store, thing and user."""
    one.need_meeting(two)
    need_small([one.body, two.body])
    pair = Pair(one, two)
    planner = Planner(pair, 0)
    plans, facts = planner.complete()
    if facts is None:
        return Verdict(pair, Shower(planner).show_first(plans), None)
    most = 1
    while True:
        longer = Planner(pair, most)
        further, facts = longer.complete()
        if facts is not None:
            return Verdict(pair, Shower(planner).show_first(plans), facts)
        planner, plans = longer, further
        most += 1


def parts_by_lacking(one, two):
    """Whether two rights part, but not where nothing is optional."""
    one.need_meeting(two)
    if one.implies(two) and two.implies(one):
        return False
    filled = one.filled()
    other = two.filled()
    return filled.implies(other) and other.implies(filled)


def never(right):
    """Whether a right admits nothing in any store."""
    return right.implies(nothing(right.schema, right.table))
