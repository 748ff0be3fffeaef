"""The body of a right: what it asks, and what is counted in its texts."""


class Body:
    """What a right asks, and what it counts.

    walked: the table of each walk. once, twice: how much counts once and how much counts
    twice in the weight. notes: what the tests compare with the cells of a store (see frames).
    """

    def __init__(self, root, walked, once, twice, notes):
        self.root = root
        self.walked = walked
        self.once = once
        self.twice = twice
        self.notes = notes

    def load(self):
        """The weight."""
        return self.once + 2 * self.twice


def put_together(root, bodies):
    """The body of a right that is made from others; it weighs one more than these."""
    walked = [table for body in bodies for table in body.walked]
    notes = [note for body in bodies for note in body.notes]
    once = 1 + sum([body.once for body in bodies])
    return Body(root, walked, once, sum([body.twice for body in bodies]), notes)
