"""Pairs of rights that are looked at together, with all their walks told apart."""

from listandpage.paths import THING, Move, Path


class Pair:
    """Two rights of the same schema and table.

    roots: what they ask. places: the walks of the first and then of the second, each with
    those around it. A right may stand in others several times; here each walk is one of its own.
    """

    def __init__(self, one, two):
        self.schema = one.schema
        self.table = one.table
        self.notes = one.body.notes + two.body.notes
        here = Move(Path(THING, ()), 0)
        self.roots = (one.body.root.moved(here), two.body.root.moved(here))
        self.places = [place for root in self.roots for place in root.walks_inside(())]
