"""Scopes: which names are visible at a place of a text, and which walks stand around it."""

from listandpage.paths import THING, USER, WALKED, Path


class Scope:
    """What each visible name means, a path and a table, and the tables of the walks around."""

    def __init__(self, names, around):
        self.visible = names
        self.around = around

    def row_path(self):
        """The path of a row of a walk that stands here."""
        return Path(WALKED + len(self.around), ())

    def naming(self, name, path, table):
        """The same scope with one more name."""
        visible = dict(self.visible)
        visible[name] = (path, table)
        return Scope(visible, self.around)

    def inside(self, name, table):
        """The scope of what is asked of the rows of a walk."""
        scope = self.naming(name, self.row_path(), table)
        return Scope(scope.visible, self.around + (table,))


def first_scope(table, user):
    """The scope outside of all walks: of a thing and a user of these tables."""
    return Scope({"thing": (Path(THING, ()), table), "user": (Path(USER, ()), user)}, ())
