"""Trees of cases with one part put otherwise."""


def places(tree, path=()):
    """The places of all parts of a tree."""
    found = [path]
    if isinstance(tree, tuple):
        for at, part in enumerate(tree):
            found += places(part, path + (at,))
    return found


def part_at(tree, path):
    for at in path:
        tree = tree[at]
    return tree


def put(tree, path, part):
    """The tree with another part at a place."""
    if not path:
        return part
    return tree[:path[0]] + (put(tree[path[0]], path[1:], part),) + tree[path[0] + 1:]


def mutant(chance, tree):
    """The tree with one part replaced, left out, added or repeated."""
    found = places(tree)
    path = chance.choice(found)
    part = part_at(tree, path)
    kind = chance.randrange(8)
    if kind < 2:
        return put(tree, path, chance.choice([True, False, "clash", "enough"]))
    if kind < 4:
        return put(tree, path, part_at(tree, chance.choice(found)))
    if kind < 6 and isinstance(part, tuple) and part:
        at = chance.randrange(len(part))
        return put(tree, path, part[:at] + part[at + (kind == 4):at + 1] * 2 + part[at + 1:])
    if kind == 6 and isinstance(part, int) and not isinstance(part, bool):
        return put(tree, path, part + chance.choice([-1, 1]))
    others = [0, 1, 2, True, None, (), [], "link", "some", "flag", "same", (0,), (2,), [True, False], list(tree)
              if isinstance(tree, tuple) else tree]
    return put(tree, path, chance.choice(others))
