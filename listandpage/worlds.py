"""The world of a store, in which everything is known."""


class StoreWorld:
    """A store as claims ask it."""

    # Numbers stand in it as they are.
    SCALE = 1

    def __init__(self, store):
        self.kept = {table: store.rows(table) for table in store.schema.tables}

    def cell(self, step, row):
        """What stands in a column of a row."""
        return self.kept[step.table][row][step.place]

    def linked(self, link, base):
        """The rows that link to a row by a column, ascending."""
        return [at for at, row in enumerate(self.kept[link.table]) if row[link.place] == base]

    def told(self, walk, chosen):
        """What was answered to whether a row of a walk counts: nothing is asked here."""
        return None

    def missing(self, walk, chosen):
        """Whether a row counts that is not known yet: there is none."""
        return False
