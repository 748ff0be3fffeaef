"""What is claimed of a store, a thing and a user: that a question or test is true, or that it is false.

A claim is asked in a world: of a store, in which all is known, or of facts, in which
some is. The answer is True if it is settled that it holds, False if it is settled that
it does not, and otherwise a tuple of the facts that it waits for. That a question is
unknown is settled where neither of its two claims holds.
"""


def inverted(told):
    """The opposite of what is settled; facts stay."""
    return told if isinstance(told, tuple) else not told


class Lone:
    """What has no parts, and so no walks. It is never made itself, only the classes below it."""

    def walks_inside(self, around):
        """The walks in it, each with those around it."""
        return []


class Join:
    """Parts of which every one, or at least one, is to be true."""

    def __init__(self, parts, every):
        self.parts = parts
        self.every = every

    def claim(self, world, chosen, wanted):
        """Whether it is true, or false, as wanted."""
        decisive = wanted != self.every
        waiting = ()
        for part in self.parts:
            told = part.claim(world, chosen, wanted)
            if isinstance(told, tuple):
                waiting = waiting + told
            elif told == decisive:
                return decisive
        return waiting if waiting else not decisive

    def moved(self, move):
        """The same where the right is used."""
        return Join([part.moved(move) for part in self.parts], self.every)

    def walks_inside(self, around):
        """The walks in it, each with those around it, in the order of the text."""
        return [found for part in self.parts for found in part.walks_inside(around)]


class Opposite:
    """True where the inner one is false, and the other way round."""

    def __init__(self, inner):
        self.inner = inner

    def claim(self, world, chosen, wanted):
        """Whether it is true, or false, as wanted."""
        return self.inner.claim(world, chosen, not wanted)

    def moved(self, move):
        """The same where the right is used."""
        return Opposite(self.inner.moved(move))

    def walks_inside(self, around):
        """The walks in it, each with those around it."""
        return self.inner.walks_inside(around)


class Certain:
    """True where the inner one is true, and otherwise false, never unknown."""

    def __init__(self, inner):
        self.inner = inner

    def claim(self, world, chosen, wanted):
        """Whether it is true, or false, as wanted."""
        told = self.inner.claim(world, chosen, True)
        return told if wanted else inverted(told)

    def moved(self, move):
        """The same where the right is used."""
        return Certain(self.inner.moved(move))

    def walks_inside(self, around):
        """The walks in it, each with those around it."""
        return self.inner.walks_inside(around)


class Constant(Lone):
    """Always true or always false."""

    def __init__(self, truth):
        self.truth = truth

    def claim(self, world, chosen, wanted):
        """Whether it is true, or false, as wanted."""
        return self.truth == wanted

    def moved(self, move):
        """The same where the right is used."""
        return self


class Use:
    """Whether another right, already moved here, admits what a path ends in; unknown where this lacks."""

    def __init__(self, path, root):
        self.path = path
        self.root = root

    def claim(self, world, chosen, wanted):
        """Whether it is true, or false, as wanted."""
        value = self.path.follow(world, chosen)
        if value is None:
            return False
        told = self.root.claim(world, chosen, True)
        if not wanted:
            told = inverted(told)
        if told is False or not isinstance(value, tuple):
            return told
        return value if told is True else value + told

    def moved(self, move):
        """The same where the right is used."""
        return Use(self.path.moved(move), self.root.moved(move))

    def walks_inside(self, around):
        """The walks in it, each with those around it."""
        return self.root.walks_inside(around)


class LackTest(Lone):
    """Whether a path lacks."""

    def __init__(self, path):
        self.path = path

    def claim(self, world, chosen, wanted):
        """Whether it is true, or false, as wanted."""
        value = self.path.follow(world, chosen)
        return value if isinstance(value, tuple) else (value is None) == wanted

    def moved(self, move):
        """The same where the right is used."""
        return LackTest(self.path.moved(move))


class FlagTest(Lone):
    """Whether a flag is True; unknown where its path lacks."""

    def __init__(self, path):
        self.path = path

    def claim(self, world, chosen, wanted):
        """Whether it is true, or false, as wanted."""
        value = self.path.follow(world, chosen)
        if value is None or isinstance(value, tuple):
            return False if value is None else value
        return value == wanted

    def moved(self, move):
        """The same where the right is used."""
        return FlagTest(self.path.moved(move))


class WordTest(Lone):
    """Whether a word is one of those written; unknown where its path lacks."""

    def __init__(self, path, words):
        self.path = path
        self.words = words

    def claim(self, world, chosen, wanted):
        """Whether it is true, or false, as wanted."""
        value = self.path.follow(world, chosen)
        if value is None or isinstance(value, tuple):
            return False if value is None else value
        return (value in self.words) == wanted

    def moved(self, move):
        """The same where the right is used."""
        return WordTest(self.path.moved(move), self.words)


class NumberTest(Lone):
    """How a number compares with the one written; unknown where its path lacks."""

    def __init__(self, path, sign, number):
        self.path = path
        self.sign = sign
        self.number = number

    def claim(self, world, chosen, wanted):
        """Whether it is true, or false, as wanted."""
        value = self.path.follow(world, chosen)
        if value is None or isinstance(value, tuple):
            return False if value is None else value
        return compares(value, self.sign, self.number * world.SCALE) == wanted

    def moved(self, move):
        """The same where the right is used."""
        return NumberTest(self.path.moved(move), self.sign, self.number)


def compares(number, sign, other):
    """Whether a number stands to another one as the sign says."""
    if sign == "=":
        return number == other
    if sign in ("<", "<="):
        return number < other or (sign == "<=" and number == other)
    return number > other or (sign == ">=" and number == other)


def waiting_for(one, two):
    """The facts that two values wait for, if they are not values yet."""
    return (one if isinstance(one, tuple) else ()) + (two if isinstance(two, tuple) else ())


class EqualTest(Lone):
    """Whether two paths of a question end in the same; unknown where one of them lacks."""

    def __init__(self, left, other):
        self.left = left
        self.other = other

    def claim(self, world, chosen, wanted):
        """Whether it is true, or false, as wanted."""
        one = self.left.follow(world, chosen)
        if one is None:
            return False
        two = self.other.follow(world, chosen)
        if two is None:
            return False
        return waiting_for(one, two) or (one == two) == wanted

    def moved(self, move):
        """The same where the right is used."""
        return EqualTest(self.left.moved(move), self.other.moved(move))


class SameTest(Lone):
    """Whether two paths of a check end in the same; None is the same as None."""

    def __init__(self, left, other):
        self.left = left
        self.other = other

    def claim(self, world, chosen, wanted):
        """Whether it is true, or false, as wanted."""
        one = self.left.follow(world, chosen)
        two = self.other.follow(world, chosen)
        return waiting_for(one, two) or (one == two) == wanted

    def moved(self, move):
        """The same where the right is used."""
        return SameTest(self.left.moved(move), self.other.moved(move))
