"""Checks as programs: the outcomes that a block can have.

An outcome is "yes" and "no", for returning True and False, and "end", for running to
the end. What is known of a block is a pair: its possible outcomes, and the facts that
it waits for, none if there is just one outcome.
"""

END = (("end",), ())


def joined(words, more, waiting):
    """The outcomes of one and more, with the facts that they wait for if there are several."""
    both = words + tuple([word for word in more if word not in words])
    return (both, waiting if len(both) > 1 else ())


class Block:
    """Statements, run one behind the other."""

    def __init__(self, statements):
        self.statements = statements

    def outcome(self, world, chosen):
        """The outcomes that it can have."""
        known = END
        for statement in self.statements:
            known = _followed(known, statement.outcome(world, chosen))
            if "end" not in known[0]:
                return known
        return known

    def moved(self, move):
        """The same where the right is used."""
        return Block([statement.moved(move) for statement in self.statements])

    def walks_inside(self, around):
        """The walks in it, each with those around it, in the order of the text."""
        return [found for statement in self.statements for found in statement.walks_inside(around)]


def _followed(known, behind):
    """What is known of statements that can run to their end, with the one behind them."""
    words = tuple([word for word in known[0] if word != "end"])
    return joined(words, behind[0], known[1] + behind[1])


class Named:
    """A path that got a name; what the name means stands where it is used."""

    def __init__(self, line, path):
        self.line = line
        self.path = path

    def outcome(self, world, chosen):
        """The outcomes that it can have."""
        return END

    def moved(self, move):
        """The same where the right is used."""
        return Named(self.line, self.path.moved(move))

    def walks_inside(self, around):
        """The walks in it: there are none."""
        return []


class If:
    """A test, and the block that is run where it is true, and where it is false."""

    def __init__(self, line, test, block, otherwise):
        self.line = line
        self.test = test
        self.block = block
        self.otherwise = otherwise

    def outcome(self, world, chosen):
        """The outcomes that it can have."""
        told = self.test.claim(world, chosen, True)
        if told is True:
            return self.block.outcome(world, chosen)
        if told is False:
            return self.otherwise.outcome(world, chosen)
        entered = self.block.outcome(world, chosen)
        passed = self.otherwise.outcome(world, chosen)
        return joined(entered[0], passed[0], told + entered[1] + passed[1])

    def moved(self, move):
        """The same where the right is used."""
        return If(self.line, self.test.moved(move), self.block.moved(move), self.otherwise.moved(move))

    def walks_inside(self, around):
        """The walks in it, each with those around it, in the order of the text."""
        walks = self.test.walks_inside(around) + self.block.walks_inside(around)
        return walks + self.otherwise.walks_inside(around)


class Return:
    """The end of a check, with the truth of a test."""

    def __init__(self, line, test):
        self.line = line
        self.test = test

    def outcome(self, world, chosen):
        """The outcomes that it can have."""
        told = self.test.claim(world, chosen, True)
        if isinstance(told, tuple):
            return (("yes", "no"), told)
        return (("yes",) if told else ("no",), ())

    def moved(self, move):
        """The same where the right is used."""
        return Return(self.line, self.test.moved(move))

    def walks_inside(self, around):
        """The walks in it, each with those around it."""
        return self.test.walks_inside(around)


class For:
    """A walk whose rows count if the block returns for them, and what it returns: None if it never does."""

    def __init__(self, line, walk, truth):
        self.line = line
        self.walk = walk
        self.truth = truth

    def outcome(self, world, chosen):
        """The outcomes that it can have."""
        if self.truth is None:
            return END
        told = self.walk.some(world, chosen)
        given = ("yes",) if self.truth else ("no",)
        if isinstance(told, tuple):
            return joined(given, ("end",), told)
        return (given, ()) if told else END

    def moved(self, move):
        """The same where the right is used."""
        return For(self.line, self.walk.moved(move), self.truth)

    def walks_inside(self, around):
        """The walks in it, each with those around it."""
        return self.walk.walks_inside(around)


class Returning:
    """Whether a block returns."""

    def __init__(self, block):
        self.block = block

    def claim(self, world, chosen, wanted):
        """Whether it is true, or false, as wanted."""
        words, waiting = self.block.outcome(world, chosen)
        if "end" in words and len(words) > 1:
            return waiting
        return ("end" not in words) == wanted

    def moved(self, move):
        """The same where the right is used."""
        return Returning(self.block.moved(move))

    def walks_inside(self, around):
        """The walks in it, each with those around it."""
        return self.block.walks_inside(around)


class Program:
    """A whole check: whether it returns True."""

    def __init__(self, block):
        self.block = block

    def claim(self, world, chosen, wanted):
        """Whether it is true, or false, as wanted."""
        words, waiting = self.block.outcome(world, chosen)
        if "yes" in words and len(words) > 1:
            return waiting
        return ("yes" in words) == wanted

    def moved(self, move):
        """The same where the right is used."""
        return Program(self.block.moved(move))

    def walks_inside(self, around):
        """The walks in it, each with those around it."""
        return self.block.walks_inside(around)
