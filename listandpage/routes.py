"""Routes: where the paths of a text lead in a schema."""

from listandpage.columns import is_link
from listandpage.paths import Step
from listandpage.tokens import Fault


class Route:
    """Where a written path leads.

    path: up to its end, or to the row whose list is walked. link: the column that makes
    this list, None without one. behind: the columns behind the list. ends: "row", or the
    kind of the cell at the end. table: that of the row, or of the row in which the cell
    stands. spot: the table and the column of the cell, None for a row.
    """

    def __init__(self, path, link, behind, ends, table, spot):
        self.path = path
        self.link = link
        self.behind = behind
        self.ends = ends
        self.table = table
        self.spot = spot

    def is_plain(self, ends):
        """Whether it has no list and ends so."""
        return self.link is None and self.ends == ends

    def is_head(self):
        """Whether it ends with a list."""
        return self.link is not None and self.behind == ()

    def meets(self, other):
        """Whether both end in rows of one table, or both in words."""
        if self.ends == "row":
            return other.ends == "row" and self.table == other.table
        return self.ends == "word" and other.ends == "word"


def find_step(schema, table, name):
    """The column of a name in a table, None if there is none."""
    for place, column in enumerate(schema.columns(table)):
        if column[1] == name:
            return Step(table, name, place)
    return None


def find_route(schema, trail, path, table):
    """Where the names behind the first of a path lead from a row of a table."""
    steps = []
    link = None
    before = 0
    ends = "row"
    spot = None
    for index, name in enumerate(trail.dotted[1:], start=1):
        lists = schema.lists(table)
        step = find_step(schema, table, name)
        if ends != "row" or (step is None and (link is not None or name not in lists)):
            raise Fault(trail.line, trail.place + 2 * index)
        if step is None:
            table, column = lists[name]
            link = find_step(schema, table, column)
            before = len(steps)
            continue
        steps.append(step)
        column = schema.columns(table)[step.place]
        if is_link(column):
            table = column[2]
        else:
            ends = column[0]
            spot = (table, column[1])
    if link is None:
        return Route(path.beyond(tuple(steps)), None, (), ends, table, spot)
    return Route(path.beyond(tuple(steps[:before])), link, tuple(steps[before:]), ends, table, spot)
