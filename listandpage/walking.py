"""Walks: whether a row of a list counts."""

from listandpage.claims import inverted


class Walk:
    """The rows of a list: those that link by a column to what a path ends in; and when a row counts."""

    def __init__(self, base, link, content):
        self.base = base
        self.link = link
        self.content = content

    def some(self, world, chosen):
        """Whether some row of the list counts."""
        told = world.told(self, chosen)
        if told is not None:
            return told
        base = self.base.follow(world, chosen)
        if base is None or isinstance(base, tuple):
            return False if base is None else base
        waiting = ()
        for row in world.linked(self.link, base):
            counts = self.content.claim(world, chosen + (row,), True)
            if counts is True:
                return True
            if isinstance(counts, tuple):
                waiting = waiting + counts
        missing = world.missing(self, chosen)
        return missing + waiting if isinstance(missing, tuple) else missing

    def moved(self, move):
        """The same where the right is used."""
        return Walk(self.base.moved(move), self.link, self.content.moved(move))

    def walks_inside(self, around):
        """The walk and those in it, each with those around it."""
        return [(self, around)] + self.content.walks_inside(around + (self,))

    def list_of(self, world, chosen):
        """The rows of the list in a store."""
        base = self.base.follow(world, chosen)
        return [] if base is None else world.linked(self.link, base)


class Some:
    """Whether some row of a list counts."""

    def __init__(self, walk):
        self.walk = walk

    def claim(self, world, chosen, wanted):
        """Whether it is true, or false, as wanted."""
        told = self.walk.some(world, chosen)
        return told if wanted else inverted(told)

    def moved(self, move):
        """The same where the right is used."""
        return Some(self.walk.moved(move))

    def walks_inside(self, around):
        """The walks in it, each with those around it."""
        return self.walk.walks_inside(around)


class Within:
    """`in` of a question with a list: two walks, for the rows that make it true, and that keep it from false."""

    def __init__(self, making, keeping):
        self.making = making
        self.keeping = keeping

    def claim(self, world, chosen, wanted):
        """Whether it is true, or false, as wanted."""
        if wanted:
            return self.making.some(world, chosen)
        return inverted(self.keeping.some(world, chosen))

    def moved(self, move):
        """The same where the right is used."""
        return Within(self.making.moved(move), self.keeping.moved(move))

    def walks_inside(self, around):
        """Its two walks, each with those around it."""
        return self.making.walks_inside(around) + self.keeping.walks_inside(around)
