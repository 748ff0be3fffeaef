"""Schemas that are made, and those that are refused."""

import copy
import unittest

from listandpage.errors import BadSchema, ListandpageError, NoName, NoRow
from listandpage.schemas import Schema
from listandpage.stores import Store
from tests.samples import (
    EXAMPLE_TABLES, LETTERS, NO_NAMES, RESERVED, chances, example, is_name, lists_of, some_name, some_tables,
)


class MadeTest(unittest.TestCase):
    def check(self, schema, user, tables):
        """The schema tells what it was made from."""
        self.assertEqual(schema.user, user)
        self.assertIs(type(schema.tables), tuple)
        self.assertEqual(schema.tables, tuple(name for name, _ in tables))
        self.assertEqual(len(schema), len(tables))
        lists = lists_of(tables)
        for name, columns in tables:
            self.assertIn(name, schema)
            self.assertIs(type(schema.columns(name)), tuple)
            self.assertEqual(repr(schema.columns(name)), repr(tuple(columns)))
            self.assertEqual(list(schema.lists(name).items()), list(lists[name].items()))

    def test_the_example(self):
        schema = example()
        self.check(schema, "person", EXAMPLE_TABLES)
        self.assertEqual(schema.lists("team"), {"members": ("member", "team")})
        self.assertEqual(schema.lists("person"), {"places": ("member", "person")})
        self.assertEqual(schema.lists("member"), {})

    def test_many_schemas(self):
        for chance in chances(300):
            tables = some_tables(chance)
            user = chance.choice(tables)[0]
            self.check(Schema(user, copy.deepcopy(tables)), user, tables)

    def test_six_tables_with_six_columns(self):
        names = [letter * 8 for letter in "abcdef"]
        tables = [(name, [("flag", other) for other in names]) for name in names]
        self.check(Schema("ffffffff", tables), "ffffffff", tables)

    def test_one_table_without_columns(self):
        self.check(Schema("a", [("a", [])]), "a", [("a", [])])

    def test_lists_come_in_the_order_of_tables_and_columns(self):
        tables = [
            ("a", [("flag", "z")]),
            ("b", [("link", "y", "a", False, "w"), ("flag", "x"), ("link", "b", "a", True, "c")]),
            ("c", [("link", "a", "a", False, "b")]),
        ]
        schema = Schema("a", tables)
        self.assertEqual(list(schema.lists("a").items()), [("w", ("b", "y")), ("c", ("b", "b")), ("b", ("c", "a"))])

    def test_names_may_be_those_of_other_tables(self):
        tables = [
            ("a", [("flag", "a"), ("flag", "b")]),
            ("b", [("flag", "a"), ("link", "b", "a", False, "c")]),
            ("c", [("link", "c", "b", False, "c")]),
        ]
        self.check(Schema("c", tables), "c", tables)

    def test_what_was_passed_may_be_changed(self):
        tables = copy.deepcopy(EXAMPLE_TABLES)
        schema = Schema("person", tables)
        tables[0][1].append(("flag", "more"))
        tables[1][1].clear()
        tables[3][1][0] = ("flag", "other")
        tables.append(("more", []))
        del tables[2]
        self.check(schema, "person", EXAMPLE_TABLES)
        self.assertEqual(schema, example())

    def test_what_was_passed_is_not_changed(self):
        tables = copy.deepcopy(EXAMPLE_TABLES)
        Schema("person", tables)
        self.assertEqual(tables, EXAMPLE_TABLES)

    def test_what_was_returned_may_be_changed(self):
        schema = example()
        for name in schema.tables:
            lists = schema.lists(name)
            lists["more"] = ("doc", "owner")
            lists.pop("members", None)
        self.check(schema, "person", EXAMPLE_TABLES)
        self.assertIsNot(schema.lists("team"), schema.lists("team"))

    def test_equal_if_written_alike(self):
        for chance in chances(100):
            tables = some_tables(chance)
            one = Schema(tables[0][0], tables)
            two = Schema(tables[0][0], copy.deepcopy(tables))
            self.assertTrue(one == two)
            self.assertFalse(one != two)
            self.assertTrue(one == one)

    def test_unequal_if_one_place_differs(self):
        one = [("a", [("flag", "f"), ("word", "w", True)]), ("b", [("link", "l", "a", True, "s")])]
        others = [
            ("b", one),
            ("a", [("c", one[0][1]), ("b", [("link", "l", "c", True, "s")])]),
            ("a", [one[0], ("c", one[1][1])]),
            ("a", [one[0]]),
            ("a", one + [("c", [])]),
            ("a", [("a", [("number", "f"), one[0][1][1]]), one[1]]),
            ("a", [("a", [("flag", "g"), one[0][1][1]]), one[1]]),
            ("a", [("a", [("flag", "f"), ("word", "w", False)]), one[1]]),
            ("a", [("a", [("word", "w", True), ("flag", "f")]), one[1]]),
            ("a", [("a", [("flag", "f")]), one[1]]),
            ("a", [one[0], ("b", [("link", "l", "a", False, "s")])]),
            ("a", [one[0], ("b", [("link", "l", "a", True, "t")])]),
            ("a", [one[0], ("b", [("link", "l", "a", True, None)])]),
            ("a", [one[0], ("b", [("link", "k", "a", True, "s")])]),
            ("a", [one[0], ("b", [("word", "l", True)])]),
        ]
        schema = Schema("a", one)
        for user, tables in others:
            user = "c" if user not in dict(tables) else user
            other = Schema(user, tables)
            self.assertTrue(schema != other, tables)
            self.assertFalse(schema == other, tables)

    def test_the_linked_table_counts_for_equality(self):
        def made(table):
            return Schema("a", [("a", []), ("b", []), ("c", [("link", "l", table, False, None)])])
        self.assertTrue(made("a") != made("b"))
        self.assertTrue(made("a") == made("a"))

    def test_equal_to_nothing_else(self):
        class Anything:
            def __eq__(self, other):
                return True

        schema = Schema("team", [("team", [])])
        for other in (None, True, 1, "team", str(schema), [schema], ("team", [("team", [])]), Store(schema), Anything()):
            self.assertFalse(schema == other)
            self.assertTrue(schema != other)

    def test_only_names_of_tables_are_in_it(self):
        schema = example()
        for value in NO_NAMES + ("code", "members", "places", "user", "person\n", b"team"):
            if value != "team":
                self.assertIs(value in schema, False)
        self.assertIs("team" in schema, True)


class RefusedTest(unittest.TestCase):
    def refused(self, user, tables, table, column):
        before = copy.deepcopy(tables)
        with self.assertRaises(BadSchema) as caught:
            Schema(user, tables)
        self.assertIs(type(caught.exception), BadSchema)
        self.assertIsInstance(caught.exception, ListandpageError)
        self.assertIsInstance(caught.exception, ValueError)
        self.assertNotIsInstance(caught.exception, (NoName, NoRow))
        self.assertEqual((caught.exception.table, caught.exception.column), (table, column), tables)
        self.assertEqual(tables, before)

    def column_refused(self, column, ahead=(), earlier=(("team", [("flag", "f")]),)):
        """The column is refused where it stands, alone and behind and ahead of others."""
        for behind in ([], [("flag", "right")], ["wrong"]):
            tables = list(earlier) + [("own", list(ahead) + [column] + behind), ("1", [])]
            self.refused(None, tables, len(earlier), len(ahead))

    def test_numbers_of_tables(self):
        self.refused("a", [], -1, -1)
        names = list("abcdefgh")
        for count in (7, 8):
            self.refused("a", [(name, []) for name in names[:count]], -1, -1)
            self.refused(1, [(1, [1])] * count, -1, -1)
        Schema("f", [(name, []) for name in names[:6]])

    def test_names_of_tables(self):
        for value in NO_NAMES + tuple(RESERVED):
            if not is_name(value):
                self.refused("a", [(value, [])], 0, -1)
                self.refused("a", [("a", []), (value, [1]), (value, [])], 1, -1)
        self.refused("a", [("a", []), ("b", []), ("a", [])], 2, -1)
        self.refused("a", [("a", []), ("a", [1])], 1, -1)

    def test_numbers_of_columns(self):
        columns = [("flag", letter) for letter in "abcdefgh"]
        for count in (7, 8):
            self.refused("a", [("a", columns[:count])], 0, -1)
            self.refused("a", [("a", []), ("b", [None] * count)], 1, -1)
        Schema("a", [("a", columns[:6])])

    def test_columns_that_are_no_tuples(self):
        for column in NO_NAMES + ("flag", ["flag", "name"], {"flag": "name"}):
            self.column_refused(column)

    def test_columns_of_wrong_lengths(self):
        right = (("flag", "a"), ("number", "a"), ("word", "a", True), ("link", "a", "team", True, None))
        for column in right:
            for count in range(len(column)):
                self.column_refused(column[:count])
            self.column_refused(column + (None,))
            self.column_refused(column + (True,))
            Schema("own", [("team", []), ("own", [column])])

    def test_first_words(self):
        for word in NO_NAMES + ("Flag", "flags", "text", "user", "table", "to", "flag?"):
            for rest in (("a",), ("a", True), ("a", "team", True, None)):
                self.column_refused((word,) + rest)
        for column in (("flag", "a", True), ("number", "a", True), ("word", "a"), ("link", "a"), ("link", "a", True)):
            self.column_refused(column)

    def test_names_of_columns(self):
        for value in NO_NAMES + tuple(RESERVED):
            if not is_name(value):
                for column in (("flag", value), ("number", value), ("word", value, False),
                               ("link", value, "team", False, None)):
                    self.column_refused(column)

    def test_names_that_stand_before(self):
        for one in (("flag", "a"), ("number", "a"), ("word", "a", True), ("link", "a", "team", True, None)):
            for two in (("flag", "a"), ("number", "a"), ("word", "a", True), ("link", "a", "team", True, None)):
                self.column_refused(two, [one])
                self.column_refused(two, [("flag", "b"), one, ("flag", "c")])

    def test_tables_of_links(self):
        for value in NO_NAMES + ("other", "own", "later", "person", "f"):
            if value != "team":
                self.column_refused(("link", "a", value, True, None))
        tables = [("a", [("link", "x", "b", True, None)]), ("b", [])]
        self.refused("a", tables, 0, 0)
        self.refused("a", [("a", [("link", "x", "a", True, None)])], 0, 0)

    def test_truth_values(self):
        for value in NO_NAMES + ("True", "yes"):
            if value is not True and value is not False:
                self.column_refused(("word", "a", value))
                self.column_refused(("link", "a", "team", value, None))
                self.column_refused(("link", "a", "team", value, "list"))

    def test_names_of_lists(self):
        for value in NO_NAMES + tuple(RESERVED):
            if value is not None and not is_name(value):
                self.column_refused(("link", "a", "team", True, value))
        self.column_refused(("link", "a", "team", True, "f"))
        self.column_refused(("link", "a", "team", True, "s"), [("link", "b", "team", True, "s")])
        earlier = (("team", []), ("first", [("link", "x", "team", True, "s")]))
        self.column_refused(("link", "a", "team", True, "s"), (), earlier)

    def test_lists_may_have_names_of_their_own_table(self):
        tables = [("team", []), ("own", [("flag", "f"), ("link", "a", "team", True, "f"), ("link", "b", "team", True, "a")])]
        self.assertEqual(Schema("own", tables).lists("team"), {"f": ("own", "a"), "a": ("own", "b")})

    def test_the_user(self):
        for value in NO_NAMES + ("f", "other", "user"):
            if value != "team":
                self.refused(value, [("team", [("flag", "f")])], 1, -1)
                self.refused(value, [("team", []), ("b", []), ("c", [])], 3, -1)

    def test_the_first_wrong_place(self):
        bad = ("flag", "Bad")
        meets = [("a", []), ("b", [("link", "x", "a", True, "s")]),
                 ("c", [("link", "x", "b", True, "s"), ("link", "y", "b", True, "t")])]
        self.refused(1, meets + [("d", [bad])], 2, 0)
        self.refused(1, meets[:2] + [("c", meets[2][1] + [bad])], 2, 2)
        self.refused(1, meets[:2] + [("C", meets[2][1] + [bad])], 2, -1)
        self.refused(1, [("a", [bad])] + meets[1:], 0, 0)
        self.refused(1, meets[:2] + [("c", [])], 3, -1)
        self.refused("a", [("a", [bad]), ("b", [bad] * 7)], 0, 0)

    def test_one_wrong_place_in_many_schemas(self):
        for chance in chances(300):
            tables = some_tables(chance)
            at = chance.randrange(len(tables))
            name, columns = tables[at]
            if not columns:
                continue
            place = chance.randrange(len(columns))
            wrong = list(columns[place])
            entry = chance.randrange(len(wrong))
            wrong[entry] = chance.choice([0, 1, "Aa", "thing", "", [], ("x",), "abcdefghi", "zzzzzzzz "])
            changed = copy.deepcopy(tables)
            changed[at][1][place] = tuple(wrong)
            self.refused(tables[0][0], changed, at, place)
            self.assertEqual(Schema(tables[0][0], tables).columns(name), tuple(columns))


class NameTest(unittest.TestCase):
    def test_any_values(self):
        schema = example()
        for value in NO_NAMES + tuple(RESERVED) + ("a", "z", "abcdefgh", "lack", "users", "al", "trues"):
            self.assertIs(Schema.is_name(value), is_name(value), value)
            self.assertIs(schema.is_name(value), is_name(value), value)

    def test_reserved_words(self):
        self.assertEqual(len(RESERVED), 20)
        for word in RESERVED:
            self.assertIs(Schema.is_name(word), False)
            self.assertIs(Schema.is_name(word + "x"), True)
            self.assertIs(Schema.is_name(word[:-1] + "z"), True)

    def test_lengths_and_signs(self):
        for count in range(12):
            self.assertIs(Schema.is_name("x" * count), 1 <= count <= 8)
        for number in list(range(32, 127)) + [10]:
            sign = chr(number)
            self.assertIs(Schema.is_name(sign), sign in LETTERS)
            self.assertIs(Schema.is_name("x" + sign), sign in LETTERS)
            self.assertIs(Schema.is_name(sign + "x"), sign in LETTERS)
        self.assertIs(Schema.is_name("\u00e4"), False)

    def test_many_names(self):
        for chance in chances(200):
            self.assertIs(Schema.is_name(some_name(chance, ())), True)

    def test_no_table(self):
        schema = example()
        for value in NO_NAMES + ("code", "members", "other", "user"):
            if value == "team":
                continue
            for ask in (schema.columns, schema.lists):
                with self.assertRaises(NoName) as caught:
                    ask(value)
                self.assertIs(caught.exception.name, value)
                self.assertIsInstance(caught.exception, LookupError)
                self.assertNotIsInstance(caught.exception, ListandpageError)
