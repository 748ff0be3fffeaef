"""Stores that are made, and those that are refused."""

import copy
import unittest

from listandpage.errors import BadStore, ListandpageError, NoName, NoRow
from listandpage.schemas import Schema
from listandpage.stores import Store
from tests.samples import (
    EXAMPLE_TABLES, NO_NAMES, chances, example, example_rows, lists_of, some_rows, some_tables,
)

NO_WORDS = tuple(value for value in NO_NAMES if value is not None and value != "team") + (
    "abcdefghi", "Word", "a b", "a1", "a\n", b"a", ("a",))
NO_INTEGERS = (True, False, "", "1", [], [1], (), (1,), {}, Schema("a", [("a", [])]))


class MadeTest(unittest.TestCase):
    def check(self, store, tables, rows):
        """The store tells its rows, and each row is in the lists of those to which it links."""
        self.assertEqual(len(store), sum(len(its) for its in rows.values()))
        for name, columns in tables:
            its = rows.get(name, [])
            self.assertIs(type(store.rows(name)), list)
            self.assertEqual(repr(store.rows(name)), repr(its))
            for at, row in enumerate(its):
                self.assertIs((name, at) in store, True)
                for column, value in zip(columns, row):
                    self.assertEqual(repr(store.value(name, at, column[1])), repr(value))
            self.assertIs((name, len(its)) in store, False)
            self.assertIs((name, -1) in store, False)
        self.check_lists(store, tables, rows)

    def check_lists(self, store, tables, rows):
        places = {name: [column[1] for column in columns] for name, columns in tables}
        for name, lists in lists_of(tables).items():
            for at in range(len(rows.get(name, []))):
                for word, (maker, column) in lists.items():
                    place = places[maker].index(column)
                    its = [index for index, row in enumerate(rows.get(maker, [])) if row[place] == at]
                    self.assertIs(type(store.listed(name, at, word)), list)
                    self.assertEqual(store.listed(name, at, word), its)

    def test_the_example(self):
        schema = example()
        store = Store(schema, example_rows())
        self.assertIs(store.schema, schema)
        self.check(store, EXAMPLE_TABLES, example_rows())
        self.assertEqual(store.listed("team", 2, "members"), [0, 2, 3])
        self.assertEqual(store.listed("team", 1, "members"), [])
        self.assertEqual(store.listed("person", 0, "places"), [0, 2])
        self.assertEqual(len(store), 12)

    def test_many_stores(self):
        for chance in chances(300):
            tables = some_tables(chance)
            rows = some_rows(chance, tables, chance.choice([1, 4, 10]))
            store = Store(Schema(tables[0][0], tables), copy.deepcopy(rows))
            self.check(store, tables, rows)
            self.assertEqual(store.schema, Schema(tables[0][0], tables))

    def test_no_rows(self):
        for store in (Store(example()), Store(example(), None), Store(example(), {}), Store(example(), {"doc": []})):
            self.check(store, EXAMPLE_TABLES, {})
            self.assertEqual(len(store), 0)
            self.assertEqual(store, Store(example()))

    def test_tables_left_out_and_in_any_order(self):
        rows = example_rows()
        turned = {name: rows[name] for name in reversed(list(rows))}
        self.assertEqual(Store(example(), turned), Store(example(), rows))
        rows = {"person": [(True, None)], "team": []}
        self.check(Store(example(), rows), EXAMPLE_TABLES, rows)

    def test_tables_without_columns(self):
        tables = [("a", []), ("b", [("link", "x", "a", False, "s")])]
        rows = {"a": [(), (), ()], "b": [(2,), (0,), (2,)]}
        self.check(Store(Schema("a", tables), rows), tables, rows)

    def test_values_at_the_edges(self):
        tables = [("a", [("number", "n"), ("word", "w", True), ("word", "v", False), ("flag", "f")])]
        most = 10 ** 30 - 1
        rows = {"a": [(most, None, "all", True), (-most, "thing", "abcdefgh", False), (0, "a", "z", True)]}
        self.check(Store(Schema("a", tables), rows), tables, rows)

    def test_sixty_rows(self):
        tables = [("a", [("number", "n")]), ("b", [("link", "x", "a", False, "s")])]
        rows = {"a": [(n,) for n in range(30)], "b": [(29 - n // 2,) for n in range(30)]}
        self.check(Store(Schema("a", tables), rows), tables, rows)

    def test_what_was_passed_may_be_changed(self):
        rows = example_rows()
        store = Store(example(), rows)
        self.assertEqual(rows, example_rows())
        rows["team"].append(("more",))
        rows["person"][0] = (False, None)
        rows["member"].clear()
        rows["doc"] = []
        self.check(store, EXAMPLE_TABLES, example_rows())

    def test_what_was_returned_may_be_changed(self):
        store = Store(example(), example_rows())
        for name in store.schema.tables:
            store.rows(name).clear()
            store.rows(name).append(())
        store.listed("team", 2, "members").clear()
        store.listed("team", 1, "members").append(0)
        self.check(store, EXAMPLE_TABLES, example_rows())

    def test_equal(self):
        for chance in chances(100):
            tables = some_tables(chance)
            rows = some_rows(chance, tables)
            one = Store(Schema(tables[0][0], tables), rows)
            two = Store(Schema(tables[0][0], copy.deepcopy(tables)), copy.deepcopy(rows))
            self.assertTrue(one == two)
            self.assertFalse(one != two)
            for name, its in rows.items():
                if its:
                    self.differs(one, Store(two.schema, {**rows, name: its + [its[0]]}))

    def differs(self, one, two):
        self.assertTrue(one != two)
        self.assertFalse(one == two)
        self.assertFalse(two == one)

    def test_unequal(self):
        store = Store(example(), example_rows())
        for name, at, column, value in (("team", 0, "code", None), ("person", 1, "staff", True), ("doc", 1, "level", 0),
                                        ("member", 3, "team", 0), ("member", 3, "person", None)):
            other = Store(example(), example_rows())
            other.change(name, at, column, value)
            self.differs(store, other)
        rows = example_rows()
        rows["member"][0], rows["member"][1] = rows["member"][1], rows["member"][0]
        self.differs(store, Store(example(), rows))
        rows = example_rows()
        del rows["doc"][1]
        self.differs(store, Store(example(), rows))
        self.differs(store, Store(Schema("team", EXAMPLE_TABLES), example_rows()))
        self.differs(Store(example()), Store(example().filled()))

    def test_equal_to_nothing_else(self):
        class Anything:
            def __eq__(self, other):
                return True

        store = Store(example(), example_rows())
        for other in (None, True, 12, "", example_rows(), example(), [store], Anything()):
            self.assertFalse(store == other)
            self.assertTrue(store != other)

    def test_only_pairs_of_rows_are_in_it(self):
        store = Store(example(), example_rows())
        for pair in (("team", 0), ("team", 2), ("member", 3)):
            self.assertIs(pair in store, True)
        for pair in (("team", 3), ("team", -1), ("team", True), ("team", False), ("team", "0"), ("team", None),
                     ("team", [0]), ("team", 10 ** 39), ["team", 0], ("team",), ("team", 0, 0), (), "team", 0, None,
                     (0, "team"), ("members", 0), ("code", 0), (["team"], 0), ({}, 0), (None, 0), (("team", 0), 0), {}):
            self.assertIs(pair in store, False)


class RefusedTest(unittest.TestCase):
    def wrong(self, call, place):
        with self.assertRaises(BadStore) as caught:
            call()
        self.assertIs(type(caught.exception), BadStore)
        self.assertIsInstance(caught.exception, ListandpageError)
        self.assertNotIsInstance(caught.exception, (NoName, NoRow))
        error = caught.exception
        self.assertEqual((error.table, error.at, error.column), place)
        self.assertIs(type(error.at), int)

    def refused(self, table, row, column):
        """The row is refused in a store, behind right rows and ahead of wrong ones, and by add."""
        for count in range(len(example_rows()[table]) + 1):
            rows = example_rows()
            rows[table] = rows[table][:count] + [row, "wrong"]
            before = copy.deepcopy(rows)
            self.wrong(lambda: Store(example(), rows), (table, count, column))
            turned = {name: rows[name] for name in reversed(list(rows))}
            self.wrong(lambda: Store(example(), turned), (table, count, column))
            self.assertEqual(rows, before)
        store = Store(example(), example_rows())
        self.wrong(lambda: store.add(table, row), (table, len(example_rows()[table]), column))
        self.assertEqual(store, Store(example(), example_rows()))

    def test_rows_of_wrong_forms(self):
        for row in (None, True, 0, "", "abcd", [], [False, None], {}, {0: True}, (), (True,), (True, None, None),
                    (True, 0, 0), (None,), example(), Store(example())):
            self.refused("person", row, None)
        self.refused("team", (), None)
        self.refused("team", ["red"], None)
        self.refused("team", ("red", "red"), None)
        self.refused("doc", (2, "x", [], True, 0), None)

    def test_flags(self):
        for value in NO_INTEGERS[2:] + (0, 1, None, "yes", "True", -1):
            self.refused("person", (value, None), "staff")
            self.refused("doc", (value, 0, None, 0), "public")

    def test_numbers(self):
        most = 10 ** 30
        for value in NO_INTEGERS + (None, most, -most, most * 9, most + 1, -most - 1, 10 ** 39, "0"):
            self.refused("doc", (True, value, None, 0), "level")

    def test_words(self):
        for value in NO_WORDS:
            self.refused("team", (value,), "code")
            self.refused("member", (0, 0, value), "role")
        self.refused("member", (0, 0, None), "role")

    def test_links(self):
        for value in NO_INTEGERS + (-1, -2, -3, 3, 4, 10 ** 39, "team"):
            self.refused("person", (True, value), "team")
            self.refused("doc", (True, 0, value, 0), "team")
            self.refused("doc", (True, 0, None, value), "owner")
        self.refused("doc", (True, 0, None, None), "owner")
        self.refused("member", (None, 0, "a"), "team")

    def test_the_first_wrong_value(self):
        self.refused("doc", (1, True, -1, None), "public")
        self.refused("doc", (True, True, -1, None), "level")
        self.refused("doc", (True, 1, -1, None), "team")
        self.refused("doc", (True, 1, 0, None), "owner")
        rows = {"member": ["wrong"], "doc": [(1, 1, 1, 1)], "person": [(True, None), (True, 5), (5, 5)], "team": []}
        self.wrong(lambda: Store(example(), rows), ("person", 1, "team"))
        rows["team"] = [(None,), ()]
        self.wrong(lambda: Store(example(), rows), ("team", 1, None))

    def test_links_to_tables_without_rows(self):
        self.wrong(lambda: Store(example(), {"person": [(True, 0)]}), ("person", 0, "team"))
        self.wrong(lambda: Store(example(), {"member": [(0, None, "a")], "person": [(True, None)]}), ("member", 0, "team"))

    def test_tables_without_columns(self):
        schema = Schema("a", [("a", [])])
        self.wrong(lambda: Store(schema, {"a": [(), (None,)]}), ("a", 1, None))
        self.wrong(lambda: Store(schema, {"a": [[]]}), ("a", 0, None))

    def test_one_wrong_value_in_many_stores(self):
        for chance in chances(300):
            tables = some_tables(chance)
            schema = Schema(tables[0][0], tables)
            rows = some_rows(chance, tables)
            full = [name for name, columns in tables if rows[name] and columns]
            if not full:
                continue
            table = chance.choice(full)
            at = chance.randrange(len(rows[table]))
            place = chance.randrange(len(rows[table][at]))
            wrong = list(rows[table][at])
            wrong[place] = chance.choice([-1, 10 ** 30, "", "Word", [], (0,), "abcdefghi"])
            column = dict(tables)[table][place]
            if column[0] == "number" and wrong[place] == -1:
                continue
            rows[table][at] = tuple(wrong)
            self.wrong(lambda: Store(schema, rows), (table, at, column[1]))
