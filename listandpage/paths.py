"""Paths: how a row or a cell is reached from the thing, the user, or a row of a walk."""

THING = 0
USER = 1
# The rows that paths begin from are the thing, the user, and one for each walk around.
WALKED = 2


class Step:
    """A column of a table, and its place in the rows of the table."""

    def __init__(self, table, column, place):
        self.table = table
        self.column = column
        self.place = place


class Path:
    """The index of the row from which a path begins, and the columns behind it."""

    def __init__(self, origin, steps):
        self.origin = origin
        self.steps = steps

    def follow(self, world, chosen):
        """What the path ends in in a world: a value, None if it lacks, or a tuple with the fact that it waits for."""
        value = chosen[self.origin]
        for step in self.steps:
            value = world.cell(step, value)
            if value is None or isinstance(value, tuple):
                return value
        return value

    def beyond(self, steps):
        """The path that goes on by these columns."""
        return Path(self.origin, self.steps + steps)

    def moved(self, move):
        """The same path in the text that uses the right in which it stands."""
        if self.origin == THING:
            return move.path.beyond(self.steps)
        return Path(self.origin if self.origin == USER else self.origin + move.depth, self.steps)


class Move:
    """A use of a right: the path that takes the place of its thing, and the number of walks around."""

    def __init__(self, path, depth):
        self.path = path
        self.depth = depth
