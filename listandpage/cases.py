"""Whether any value is a tree of cases, or a certificate, for two rights."""

from listandpage.pairs import Pair
from listandpage.stores import Store
from listandpage.trees import Cases


def is_tree(one, two, thing, *, least=0):
    """Whether any value is a tree of cases for two rights in which all leaves are right."""
    one.need_meeting(two)
    cases = Cases(Pair(one, two))
    waiting = split_first(cases, thing)
    if waiting is None:
        return False
    while waiting:
        case, tree = waiting.pop()
        if isinstance(tree, tuple):
            behind = cases.split(case, tree)
            if behind is None:
                return False
            waiting.extend(behind)
        elif not cases.is_right(case, tree, least):
            return False
    return True


def split_first(cases, tree):
    """The cases at the beginning, each with its tree; None if the tree does not begin so."""
    first = cases.first_cases()
    if len(first) == 1:
        return [(first[0], tree)]
    if not isinstance(tree, tuple) or len(tree) != 2 or not isinstance(tree[0], str) or tree[0] != "same":
        return None
    branches = tree[1]
    return list(zip(first, branches)) if isinstance(branches, tuple) and len(branches) == len(first) else None


def is_certificate(one, two, thing):
    """Whether any value shows that two rights are alike, or that they part on a store and on none with fewer rows."""
    one.need_meeting(two)
    if not isinstance(thing, tuple) or not thing or not isinstance(thing[0], str):
        return False
    if thing[0] == "alike":
        return len(thing) == 2 and is_tree(one, two, thing[1])
    return thing[0] == "part" and len(thing) == 5 and is_parting(one, two, thing)


def is_parting(one, two, thing):
    """Whether a tuple tells a store, a thing and a user that part two rights, and a tree for as many rows."""
    store, at, user = thing[1], thing[2], thing[3]
    if not isinstance(store, Store) or store.schema != one.schema:
        return False
    if (one.table, at) not in store or (one.schema.user, user) not in store:
        return False
    if one.admits(store, at, user) == two.admits(store, at, user):
        return False
    return is_tree(one, two, thing[4], least=len(store))
