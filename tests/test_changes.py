"""Stores that are changed, and places that are none."""

import copy
import unittest

from listandpage.errors import BadStore, ListandpageError, NoName, NoRow
from listandpage.schemas import Schema
from listandpage.stores import Store
from tests.samples import (
    NO_NAMES, chances, example, example_rows, lists_of, some_row, some_rows, some_tables, some_value,
)

NO_ROWS = (-1, True, False, None, "", "0", [], [0], (), (0,), {}, 10 ** 39, -10 ** 39, "team")


class ChangeTest(unittest.TestCase):
    def setUp(self):
        self.store = Store(example(), example_rows())

    def test_change(self):
        self.assertIsNone(self.store.change("member", 1, "team", 2))
        self.assertIsNone(self.store.change("member", 1, "role", "user"))
        self.assertIsNone(self.store.change("doc", 1, "level", -3))
        self.assertIsNone(self.store.change("doc", 1, "team", None))
        self.assertIsNone(self.store.change("team", 0, "code", None))
        rows = example_rows()
        rows["member"][1] = (2, None, "user")
        rows["doc"][1] = (False, -3, None, 0)
        rows["team"][0] = (None,)
        self.assertEqual({name: self.store.rows(name) for name in rows}, rows)
        self.assertEqual(self.store.listed("team", 2, "members"), [0, 1, 2, 3])
        self.assertEqual(self.store.listed("team", 0, "members"), [])

    def test_add(self):
        self.assertEqual(self.store.add("team", (None,)), 3)
        self.assertEqual(self.store.add("team", ("red",)), 4)
        self.assertEqual(self.store.add("member", (4, None, "b")), 4)
        rows = example_rows()
        rows["team"] += [(None,), ("red",)]
        rows["member"].append((4, None, "b"))
        self.assertEqual({name: self.store.rows(name) for name in rows}, rows)
        self.assertEqual(self.store.listed("team", 4, "members"), [4])
        self.assertEqual(len(self.store), 15)
        self.assertIn(("team", 4), self.store)

    def test_add_to_an_empty_store(self):
        store = Store(example())
        self.assertEqual(store.add("team", ("red",)), 0)
        self.assertEqual(store.add("person", (True, 0)), 0)
        self.assertEqual(store.add("person", (True, 0)), 1)
        self.assertEqual(store, Store(example(), {"team": [("red",)], "person": [(True, 0), (True, 0)]}))

    def test_copy(self):
        other = self.store.copy()
        self.assertIs(type(other), Store)
        self.assertIsNot(other, self.store)
        self.assertEqual(other, self.store)
        self.assertEqual(other.schema, self.store.schema)
        other.add("team", (None,))
        other.change("person", 0, "staff", False)
        self.assertEqual(self.store, Store(example(), example_rows()))
        kept = other.copy()
        self.store.change("person", 1, "team", 1)
        self.store.add("person", (True, None))
        self.assertEqual(other, kept)

    def test_lists_that_were_told_stay(self):
        rows = self.store.rows("member")
        told = self.store.listed("team", 2, "members")
        self.store.change("member", 1, "team", 2)
        self.store.add("member", (2, None, "b"))
        self.assertEqual(rows, example_rows()["member"])
        self.assertEqual(told, [0, 2, 3])

    def test_wrong_values(self):
        for table, at, column, value in (
                ("person", 0, "staff", 1), ("person", 0, "staff", None), ("doc", 0, "level", True),
                ("doc", 1, "level", 10 ** 30), ("doc", 1, "level", None), ("team", 0, "code", "Red"),
                ("team", 0, "code", 0), ("member", 3, "role", None), ("member", 3, "role", ["a"]),
                ("member", 0, "team", None), ("member", 0, "team", -1), ("member", 0, "team", 3),
                ("member", 0, "team", True), ("member", 0, "person", "a"), ("doc", 0, "owner", None)):
            with self.assertRaises(BadStore) as caught:
                self.store.change(table, at, column, value)
            error = caught.exception
            self.assertEqual((error.table, error.at, error.column), (table, at, column))
            self.assertIsInstance(error, ListandpageError)
            self.assertEqual(self.store, Store(example(), example_rows()))


class PlaceTest(unittest.TestCase):
    def setUp(self):
        self.store = Store(example(), example_rows())

    def no_name(self, call, value):
        with self.assertRaises(NoName) as caught:
            call()
        self.assertIs(type(caught.exception), NoName)
        self.assertIs(caught.exception.name, value)
        self.assertEqual(self.store, Store(example(), example_rows()))

    def no_row(self, call, table, at):
        with self.assertRaises(NoRow) as caught:
            call()
        self.assertIs(type(caught.exception), NoRow)
        self.assertIs(caught.exception.table, table)
        self.assertIs(caught.exception.at, at)
        self.assertNotIsInstance(caught.exception, ListandpageError)
        self.assertEqual(self.store, Store(example(), example_rows()))

    def test_tables(self):
        for table in NO_NAMES + ("other", "members", "code", self.store):
            if table == "team":
                continue
            self.no_name(lambda: self.store.rows(table), table)
            for at in (0, 9, True):
                for name in ("code", "members", "wrong", []):
                    self.no_name(lambda: self.store.value(table, at, name), table)
                    self.no_name(lambda: self.store.listed(table, at, name), table)
                    self.no_name(lambda: self.store.change(table, at, name, "wrong"), table)
            for row in ((None,), (), "wrong"):
                self.no_name(lambda: self.store.add(table, row), table)

    def test_rows(self):
        for at in NO_ROWS + (3,):
            for name in ("code", "members", "wrong", [], None):
                self.no_row(lambda: self.store.value("team", at, name), "team", at)
                self.no_row(lambda: self.store.listed("team", at, name), "team", at)
                self.no_row(lambda: self.store.change("team", at, name, 0), "team", at)
        self.store.value("team", 2, "code")
        empty = Store(example())
        for at in (0, -1):
            self.no_row(lambda: empty.value("team", at, "code"), "team", at)
            self.no_row(lambda: empty.listed("team", at, "members"), "team", at)
            self.no_row(lambda: empty.change("team", at, "code", None), "team", at)

    def test_columns(self):
        for name in NO_NAMES + ("members", "role", "other", ("code",), self.store):
            if name != "code":
                self.no_name(lambda: self.store.value("team", 0, name), name)
                self.no_name(lambda: self.store.change("team", 0, name, None), name)
                self.no_name(lambda: self.store.change("team", 0, name, []), name)

    def test_lists(self):
        for name in NO_NAMES + ("code", "places", "role", "other", ("members",), self.store):
            self.no_name(lambda: self.store.listed("team", 0, name), name)
        self.no_name(lambda: self.store.listed("member", 0, "team"), "team")
        self.no_name(lambda: self.store.listed("doc", 0, "members"), "members")

    def test_printed(self):
        for table in NO_NAMES + ("other", "members", "code"):
            if table != "team":
                self.no_name(lambda: self.store.printed(table), table)


class ManyDeedsTest(unittest.TestCase):
    def agree(self, store, tables, rows):
        """What the store tells agrees with the rows."""
        self.assertEqual(len(store), sum(len(its) for its in rows.values()))
        lists = lists_of(tables)
        for name, columns in tables:
            self.assertEqual(repr(store.rows(name)), repr(rows[name]))
            for at, row in enumerate(rows[name]):
                self.assertIn((name, at), store)
                self.assertEqual([store.value(name, at, column[1]) for column in columns], list(row))
                for word in lists[name]:
                    self.assertEqual(store.listed(name, at, word), self.expected(tables, rows, lists[name][word], at))
            self.assertNotIn((name, len(rows[name])), store)

    def expected(self, tables, rows, maker, at):
        """The rows in a list, by the rows alone."""
        columns = [column[1] for column in dict(tables)[maker[0]]]
        return [index for index, row in enumerate(rows[maker[0]]) if row[columns.index(maker[1])] == at]

    def deed(self, chance, store, tables, rows):
        """Do the same to the store and to the rows; now and then something wrong."""
        table, columns = chance.choice(tables)
        counts = {name: len(its) for name, its in rows.items()}
        if not columns or not rows[table] or chance.random() < 0.3:
            row = some_row(chance, columns, counts)
            if row is not None:
                self.assertEqual(store.add(table, row), counts[table])
                rows[table].append(row)
                return
        if not rows[table] or not columns:
            return
        at = chance.randrange(len(rows[table]))
        place = chance.randrange(len(columns))
        value = some_value(chance, columns[place], counts)
        if chance.random() < 0.2:
            with self.assertRaises(BadStore):
                store.change(table, at, columns[place][1], chance.choice([[], "Wrong", 10 ** 30, ()]))
            with self.assertRaises(BadStore):
                store.add(table, rows[table][at] + (0,))
        else:
            self.assertIsNone(store.change(table, at, columns[place][1], value))
            row = rows[table][at]
            rows[table][at] = row[:place] + (value,) + row[place + 1:]

    def test_many_deeds_with_copies(self):
        for chance in chances(60):
            tables = some_tables(chance)
            rows = some_rows(chance, tables, 4)
            stores = [(Store(Schema(tables[0][0], tables), rows), copy.deepcopy(rows))]
            for _ in range(25):
                store, its = chance.choice(stores)
                self.deed(chance, store, tables, its)
                if len(stores) < 4 and chance.random() < 0.15:
                    stores.append((store.copy(), copy.deepcopy(its)))
                for other, told in stores:
                    self.agree(other, tables, told)
