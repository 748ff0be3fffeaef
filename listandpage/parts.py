"""Kept parts: the rows of a store that two rights need, and how many these can be."""

from listandpage.columns import has_list, is_link
from listandpage.pairs import Pair
from listandpage.worlds import StoreWorld


class Keeper:
    """Gathers the rows of a kept part."""

    def __init__(self, pair, store, start):
        self.schema = pair.schema
        self.places = pair.places
        self.world = StoreWorld(store)
        self.start = start
        self.held = {table: {} for table in pair.schema.tables}
        # The choices of rows around the walks that are done with, each with the index of its walk.
        self.done = {}

    def keep(self, table, row):
        """Keep a row, and with it the rows to which it links."""
        if row in self.held[table]:
            return
        self.held[table][row] = True
        for column, value in zip(self.schema.columns(table), self.world.kept[table][row]):
            if is_link(column) and value is not None:
                self.keep(column[2], value)

    def keep_first_rows(self):
        """Keep the first row that counts for each walk and each choice of kept rows around it; tell if any is new."""
        grown = False
        for index, (walk, around) in enumerate(self.places):
            for chosen in self.choices(around):
                if (index, chosen) not in self.done:
                    self.done[(index, chosen)] = True
                    grown = True
                    self.keep_first(walk, chosen)
        return grown

    def choices(self, around):
        """The thing, the user and a kept row for each of some walks, each in the list of its walk."""
        found = [self.start]
        for walk in around:
            found = [chosen + (row,) for chosen in found for row in self.held_of(walk, chosen)]
        return found

    def held_of(self, walk, chosen):
        """The kept rows in the list of a walk."""
        return [row for row in walk.list_of(self.world, chosen) if row in self.held[walk.link.table]]

    def keep_first(self, walk, chosen):
        """Keep the first row of the list of a walk that counts."""
        for row in walk.list_of(self.world, chosen):
            if walk.content.claim(self.world, chosen + (row,), True):
                self.keep(walk.link.table, row)
                return


def kept_part(one, two, store, thing, user):
    """The rows of each table that the two rights need to admit the thing to the user or not."""
    one.need_meeting(two)
    one.need_place(store, [(one.table, thing), (one.schema.user, user)])
    keeper = Keeper(Pair(one, two), store, (thing, user))
    keeper.keep(one.table, thing)
    keeper.keep(one.schema.user, user)
    while keeper.keep_first_rows():
        pass
    return {table: sorted([int(row) for row in keeper.held[table]]) for table in one.schema.tables}


def find_ways(schema, table):
    """The number of ways from a table to each one."""
    ways = {each: 0 for each in schema.tables}
    ways[table] = 1
    # Links lead to earlier tables, so that the ways to the later ones are complete.
    for each in reversed(list(schema.tables)):
        for column in schema.columns(each):
            if is_link(column):
                ways[column[2]] = ways[column[2]] + ways[each]
    return ways


def is_listed(schema, table):
    """Whether a table has a link with a list."""
    return any([has_list(column) for column in schema.columns(table)])


def bounds(one, two):
    """The number of rows of each table that a kept part has at most."""
    one.need_meeting(two)
    schema = one.schema
    from_thing = find_ways(schema, one.table)
    from_user = find_ways(schema, schema.user)
    most = {table: from_thing[table] + from_user[table] for table in schema.tables}
    listed = [table for table in schema.tables if is_listed(schema, table)]
    places = Pair(one, two).places
    for table in listed:
        found = sum([times_around(most, around) for walk, around in places if walk.link.table == table])
        most[table] += found
        ways = find_ways(schema, table)
        for each in schema.tables:
            if each not in listed:
                most[each] += found * ways[each]
    return most


def times_around(most, around):
    """The product of the numbers of rows for the tables of some walks."""
    times = 1
    for walk in around:
        times = times * most[walk.link.table]
    return times
