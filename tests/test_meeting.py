"""Lists may not meet: point 6."""

import unittest

from listandpage.errors import BadSchema
from listandpage.schemas import Schema
from tests.samples import chances, lists_of, meeting_links, some_tables


def link(name, table, listed=None, optional=False):
    return ("link", name, table, optional, listed)


class MeetingTest(unittest.TestCase):
    def check(self, tables, place):
        """The place at which the tables are refused, None if they are not."""
        if place is None:
            Schema(tables[0][0], tables)
            return
        with self.assertRaises(BadSchema) as caught:
            Schema(tables[0][0], tables)
        self.assertEqual((caught.exception.table, caught.exception.column), place)

    def test_the_notes_of_members(self):
        tables = [
            ("team", []),
            ("person", [link("team", "team")]),
            ("member", [link("team", "team", "members"), link("person", "person")]),
        ]
        self.check(tables + [("note", [link("member", "member", "notes"), link("by", "person")])], None)
        self.check(tables + [("note", [link("member", "member", "notes"), link("to", "member")])], (3, 1))
        self.check(tables + [("note", [link("to", "member"), link("member", "member", "notes")])], (3, 0))
        self.check(tables + [("note", [link("member", "member", "notes"), link("to", "member", "more")])], (3, 0))
        self.check(tables + [("note", [link("member", "member", "notes"), link("by", "person", "own")])], (3, 0))
        self.check(tables + [("note", [link("by", "person", "own"), link("member", "member", "notes")])], (3, 1))
        self.check(tables + [("note", [link("by", "person", "own"), link("member", "member")])], (3, 1))

    def test_tables_that_are_not_listed_may_link_as_they_like(self):
        tables = [("a", []), ("b", [link("x", "a", "s")]), ("c", [link("x", "b"), link("y", "b"), link("z", "a")])]
        self.check(tables, None)

    def test_two_lists_of_one_table_that_lead_to_no_listed_one(self):
        self.check([("a", []), ("b", [link("x", "a", "s"), link("y", "a", "t"), link("z", "a")])], None)

    def test_it_leads_through_tables_that_are_not_listed(self):
        tables = [
            ("a", []),
            ("b", [link("x", "a", "s")]),
            ("c", [("flag", "f"), link("x", "b")]),
            ("d", [link("x", "c")]),
        ]
        self.check(tables + [("e", [link("x", "a", "t"), link("y", "d")])], (4, 1))
        self.check(tables + [("e", [("flag", "f"), link("x", "d", "t"), link("y", "a", "u")])], (4, 1))
        self.check(tables + [("e", [link("x", "d", "t"), link("y", "a")])], None)
        self.check(tables + [("e", [link("x", "d", "t"), link("y", "c")])], (4, 1))

    def test_a_link_to_a_listed_table_whose_links_lead_nowhere_listed(self):
        self.check([("a", []), ("b", [link("x", "a", "s")]), ("c", [link("x", "b", "s"), link("y", "a", "t")])], (2, 0))

    def test_lists_of_a_refused_column_by_point_five_come_first(self):
        tables = [("a", []), ("b", [link("x", "a", "s")]), ("c", [link("x", "b", "s"), link("y", "b", "s")])]
        self.check(tables, (2, 1))

    def test_many_schemas_put_right_link_by_link(self):
        refused = 0
        for chance in chances(1200):
            tables = some_tables(chance, chance.randint(2, 6), keep_six=False)
            tables = [(name, list(columns)) for name, columns in tables]
            while True:
                broken = meeting_links(tables)
                if not broken:
                    break
                refused += 1
                index, places = broken[0]
                self.check(tables, (index, places[0]))
                columns = tables[index][1]
                if chance.random() < 0.5:
                    del columns[places[0]]
                else:
                    columns[places[0]] = ("flag", columns[places[0]][1])
            schema = Schema(tables[0][0], tables)
            for name, lists in lists_of(tables).items():
                self.assertEqual(list(schema.lists(name).items()), list(lists.items()))
        self.assertGreater(refused, 300)
