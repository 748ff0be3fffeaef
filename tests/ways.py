"""The way that a store goes through a tree of cases, and all small stores of a schema."""

import itertools

from listandpage.stores import Store
from tests.settling import Reader, Settler, StoreRows


class Guide:
    """Answers the questions of trees for two spelled rights as a store, a thing and a user do."""

    def __init__(self, one, two, store, thing, user):
        self.store = store
        self.reader = Reader(store.schema)
        rights = [self.reader.right(one), self.reader.right(two)]
        self.settler = Settler(StoreRows(store), self.reader.walks)
        self.contents = {}
        for right in rights:
            self.contents.update(self.settler.content(right))
        self.start = ((one.right.table, thing), (store.schema.user, user))
        self.named = []
        self.words = []

    def follow(self, tree):
        """The leaf at the end, and how many rows are named there."""
        self.named = list(self.start)
        if tree[0:1] == ("same",) if isinstance(tree, tuple) else False:
            same = self.start[0] == self.start[1]
            tree = tree[1][same]
            self.named = self.named[:2 - same]
        elif self.start[0][0] == self.start[1][0]:
            raise AssertionError("the tree must ask whether thing and user are the same")
        while isinstance(tree, tuple):
            tree = self.next(tree)
        return tree, len(self.named)

    def name(self, row, rows):
        """The place of a row behind those of a table that are named; a new row is named."""
        if row in rows:
            return rows.index(row)
        self.named.append(row)
        return len(rows)

    def next(self, tree):
        kind, row, column, branches = tree
        if kind == "some":
            return branches[self.answer(row, column)]
        row = self.named[row]
        given = {each[1]: each for each in self.store.schema.columns(row[0])}[column]
        value = self.settler.world.cell(row, column)
        if kind == "flag":
            return branches[value]
        if kind == "number":
            written = sorted(self.reader.numbers.get((row[0], column), ()))
            below = sum(number < value for number in written)
            return branches[2 * below + (value in written)]
        optional = given[3] if kind == "link" else given[2]
        if value is None:
            return branches[0]
        if kind == "link":
            return branches[optional + self.name(value, [each for each in self.named if each[0] == given[2]])]
        known = sorted(self.reader.words) + self.words
        if value not in known:
            self.words.append(value)
        return branches[optional + (known.index(value) if value in known else len(known))]

    def answer(self, index, names):
        """Which row counts: 0 for none, then the named rows, then a new one."""
        walk = self.reader.walks[index]
        rows = self.start + tuple(self.named[name] for name in names)
        base = self.settler.value(walk.base, rows)
        found = [row for row in self.settler.world.listed(walk.link, base) if self.contents[index](rows + (row,))]
        named = [row for row in self.named if row[0] == walk.link[0]]
        known = [row for row in found if row in named]
        return 1 + self.name((known or found)[0], named) if found else 0


def cell_values(column, counts, words, numbers):
    """All values of a cell."""
    if column[0] == "flag":
        return [False, True]
    if column[0] == "number":
        return numbers
    if column[0] == "word":
        return [None] * column[2] + words
    return [None] * column[3] + list(range(counts[column[2]]))


def tables_with(schema, counts, words, numbers):
    """For each table all contents, the order of rows left aside."""
    found = []
    for table in schema.tables:
        cells = [cell_values(column, counts, words, numbers) for column in schema.columns(table)]
        rows = list(itertools.product(*cells))
        found.append(list(itertools.combinations_with_replacement(rows, counts[table])))
    return found


def small_stores(schema, most, words, numbers=(0,)):
    """All stores with so many rows at most, smaller ones first."""
    many = [counts for counts in itertools.product(range(most + 1), repeat=len(schema)) if sum(counts) <= most]
    for counts in sorted(many, key=sum):
        named = dict(zip(schema.tables, counts))
        for rows in itertools.product(*tables_with(schema, named, words, list(numbers))):
            yield Store(schema, {table: list(its) for table, its in zip(schema.tables, rows)})
