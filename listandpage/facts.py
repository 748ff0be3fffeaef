"""Facts about rows that are named by numbers, as far as they are known."""


class Facts:
    """What is known; it never changes.

    start: the names of the thing and the user. named: the table of each named row.
    cells: what stands in a column of a named row, by the row and the place of the column.
    answers: whether some row counts for a walk, by the walk and the rows that its paths
    begin from: a row that does, or None. used: by the group of cells that are compared with
    one another, the words that stand there, as the keys of a dict.
    """

    # Numbers stand here twice as large, so that there is one between any two that are written.
    SCALE = 2

    def __init__(self, start, named, cells, answers, used):
        self.start = start
        self.named = named
        self.cells = cells
        self.answers = answers
        self.used = used

    def cell(self, step, row):
        """What stands in a column of a row, or a tuple with this fact, which is not known."""
        key = (row, step.place)
        return self.cells[key] if key in self.cells else (("cell", step, row),)

    def linked(self, link, base):
        """The named rows that are known to link to a row by a column."""
        return [row for row in self.of_table(link.table) if self.cells.get((row, link.place)) == base]

    def of_table(self, table):
        """The named rows of a table."""
        return [row for row, named in enumerate(self.named) if named == table]

    def told(self, walk, chosen):
        """What was answered to whether a row of a walk counts, None if it was not asked."""
        key = (walk, chosen)
        return self.answers[key] is not None if key in self.answers else None

    def missing(self, walk, chosen):
        """A tuple with the fact whether a row of a walk counts, which is not known."""
        return (("some", walk, chosen),)

    def with_cell(self, row, place, value):
        """The same and what stands in a cell."""
        cells = {key: self.cells[key] for key in self.cells}
        cells[(row, place)] = value
        return Facts(self.start, self.named, cells, self.answers, self.used)

    def with_word(self, group, word):
        """The same and a word that stands in a group of cells."""
        used = {key: self.used[key] for key in self.used}
        used[group] = {**used.get(group, {}), word: True}
        return Facts(self.start, self.named, self.cells, self.answers, used)

    def with_row(self, table):
        """The same and one more row of a table."""
        return Facts(self.start, self.named + (table,), self.cells, self.answers, self.used)

    def with_answer(self, walk, chosen, row):
        """The same and a row that counts for a walk, or None: that no row does."""
        answers = {key: self.answers[key] for key in self.answers}
        answers[(walk, chosen)] = row
        return Facts(self.start, self.named, self.cells, answers, self.used)


def first_facts(table, user):
    """What can be known at first of a thing and a user of these tables."""
    apart = Facts((0, 1), (table, user), {}, {}, {})
    if table != user:
        return [apart]
    return [apart, Facts((0, 0), (table,), {}, {}, {})]
