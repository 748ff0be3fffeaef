"""Parts of stores: the rows that are kept, numbered anew."""

import copy
import unittest

from listandpage.errors import BadStore, Dangling, ListandpageError, NoName, NoRow
from listandpage.schemas import Schema
from listandpage.stores import Store
from tests.samples import NO_NAMES, chances, example, example_rows, some_rows, some_tables


def expected(tables, rows, kept):
    """The rows of the part, or the place of the first link that leads out."""
    made = {}
    for name, columns in tables:
        made[name] = []
        for at, row in enumerate(rows[name]):
            if at not in kept.get(name, []):
                continue
            new = []
            for column, value in zip(columns, row):
                if column[0] == "link" and value is not None:
                    if value not in kept.get(column[2], []):
                        return (name, at, column[1])
                    value = sorted(kept[column[2]]).index(value)
                new.append(value)
            made[name].append(tuple(new))
    return made


class PartTest(unittest.TestCase):
    def setUp(self):
        self.store = Store(example(), example_rows())

    def test_links_are_numbered_anew(self):
        kept = {"member": [3, 0], "team": [2], "person": [1, 0]}
        part = self.store.part(kept)
        self.assertIs(type(part), Store)
        self.assertEqual(part, Store(example(), {
            "team": [("blue",)], "person": [(True, 0), (False, None)], "member": [(0, 0, "lead"), (0, 1, "x")]}))
        self.assertEqual(kept, {"member": [3, 0], "team": [2], "person": [1, 0]})
        self.assertEqual(self.store, Store(example(), example_rows()))

    def test_nothing_and_everything(self):
        self.assertEqual(self.store.part({}), Store(example()))
        self.assertEqual(self.store.part({"doc": [], "team": []}), Store(example()))
        whole = {name: list(reversed(range(len(self.store.rows(name))))) for name in self.store.schema.tables}
        part = self.store.part(whole)
        self.assertEqual(part, self.store)
        part.add("team", (None,))
        part.change("person", 0, "staff", False)
        self.assertEqual(self.store, Store(example(), example_rows()))

    def dangling(self, kept, place):
        before = copy.deepcopy(kept)
        with self.assertRaises(Dangling) as caught:
            self.store.part(kept)
        error = caught.exception
        self.assertIsInstance(error, ListandpageError)
        self.assertNotIsInstance(error, BadStore)
        self.assertEqual((error.table, error.at, error.column), place)
        self.assertEqual(kept, before)
        self.assertEqual(self.store, Store(example(), example_rows()))

    def test_the_first_link_that_leads_out(self):
        self.dangling({"person": [0]}, ("person", 0, "team"))
        self.dangling({"person": [0], "team": [0, 1]}, ("person", 0, "team"))
        self.dangling({"doc": [1, 0], "person": [1]}, ("doc", 1, "team"))
        self.dangling({"doc": [1], "team": [2]}, ("doc", 1, "owner"))
        self.dangling({"member": [3, 2], "doc": [1, 0]}, ("doc", 0, "owner"))
        self.dangling({"member": [3, 2], "person": [1]}, ("member", 2, "team"))
        self.dangling({"member": [0, 3, 2], "person": [1], "team": [2]}, ("member", 0, "person"))
        self.dangling({"member": [3, 1], "person": [1, 2], "team": [2]}, ("person", 2, "team"))

    def no_name(self, kept, table):
        with self.assertRaises(NoName) as caught:
            self.store.part(kept)
        self.assertIs(caught.exception.name, table)

    def no_row(self, kept, table, at):
        with self.assertRaises(NoRow) as caught:
            self.store.part(kept)
        self.assertIs(caught.exception.table, table)
        self.assertIs(caught.exception.at, at)

    def test_what_is_no_table(self):
        for table in NO_NAMES + ("members", "code"):
            if table == "team" or isinstance(table, (list, dict, Schema)):
                continue  # these cannot be keys of a dict
            self.no_name({table: []}, table)
            self.no_name({table: [9]}, table)
            self.no_name({"team": [0], table: [0], "other": [], "person": [9]}, table)
            self.no_name({"person": [0], table: [0]}, table)
            self.no_row({"team": [3], table: [0]}, "team", 3)

    def test_what_is_no_row(self):
        for at in (-1, 3, True, False, None, "0", [], (0,), {}, 10 ** 39):
            self.no_row({"team": [at]}, "team", at)
            self.no_row({"person": [0], "team": [2, 0, at, -2], "other": []}, "team", at)
        self.no_row({"person": [3], "team": [-1]}, "person", 3)
        self.no_row({"team": [-1], "person": [3]}, "team", -1)
        self.no_name({"other": [0], "team": [-1]}, "other")
        self.assertEqual(self.store, Store(example(), example_rows()))

    def test_many_parts(self):
        made = 0
        dangling = 0
        for chance in chances(1000):
            tables = some_tables(chance)
            rows = some_rows(chance, tables, chance.choice([3, 8]))
            schema = Schema(tables[0][0], tables)
            self.store = Store(schema, rows)
            kept = self.some_kept(chance, tables, rows)
            told = copy.deepcopy(kept)
            wanted = expected(tables, rows, kept)
            if isinstance(wanted, dict):
                made += 1
                self.assertEqual(self.store.part(kept), Store(schema, wanted))
            else:
                dangling += 1
                with self.assertRaises(Dangling) as caught:
                    self.store.part(kept)
                error = caught.exception
                self.assertEqual((error.table, error.at, error.column), wanted)
            self.assertEqual(kept, told)
            self.assertEqual(self.store, Store(schema, rows))
        self.assertGreater(made, 150)
        self.assertGreater(dangling, 100)

    def some_kept(self, chance, tables, rows):
        """Rows to be kept, often those too to which they link, in any order."""
        close = chance.random() < 0.6
        kept = {name: [at for at in range(len(rows[name])) if chance.random() < 0.5] for name, _ in tables}
        for name, columns in reversed(tables):
            for at in kept[name] if close else ():
                for column, value in zip(columns, rows[name][at]):
                    if column[0] == "link" and value is not None and value not in kept[column[2]]:
                        kept[column[2]].append(value)
        names = list(kept)
        chance.shuffle(names)
        for name in names:
            chance.shuffle(kept[name])
        return {name: kept[name] for name in names if kept[name] or chance.random() < 0.5}
