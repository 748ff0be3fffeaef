"""Printed tables, character by character."""

import unittest

from listandpage.schemas import Schema
from listandpage.stores import Store
from tests.samples import chances, example, example_rows, some_rows, some_tables


def expected(columns, rows):
    """The text, spelled a second time."""
    shown = {True: "yes", False: "no", None: "-"}
    text = " " * 4
    for column in columns:
        text += "  " + " " * (8 - len(column[1])) + column[1]
    for at, row in enumerate(rows):
        text += "\n" + " " * (4 - len(str(at))) + str(at)
        for value in row:
            word = shown[value] if value is None or type(value) is bool else str(value)
            text += "  " + " " * max(0, 8 - len(word)) + word
    return text


class PrintedTest(unittest.TestCase):
    def test_the_example(self):
        store = Store(example(), example_rows())
        self.assertEqual(store.printed("team"), "\n".join((
            "          code",
            "   0       red",
            "   1         -",
            "   2      blue",
        )))
        self.assertEqual(store.printed("person"), "\n".join((
            "         staff      team",
            "   0       yes         2",
            "   1        no         -",
            "   2        no         0",
        )))
        self.assertEqual(store.printed("doc"), "\n".join((
            "        public     level      team     owner",
            "   0       yes         7         -         1",
            "   1        no  -999999999999999999999999999999         2         0",
        )))
        self.assertEqual(store.printed("member"), "\n".join((
            "          team    person      role",
            "   0         2         0      lead",
            "   1         0         -       all",
            "   2         2         0  abcdefgh",
            "   3         2         1         x",
        )))

    def test_without_columns_and_without_rows(self):
        schema = Schema("a", [("a", []), ("b", [("flag", "abcdefgh")])])
        store = Store(schema, {"a": [()] * 3})
        self.assertEqual(store.printed("a"), "    \n   0\n   1\n   2")
        self.assertEqual(store.printed("b"), "      abcdefgh")
        self.assertEqual(Store(schema).printed("a"), "    ")

    def test_indexes_of_two_digits(self):
        store = Store(Schema("a", [("a", [("flag", "f")])]), {"a": [(True,)] * 12})
        lines = store.printed("a").split("\n")
        self.assertEqual(len(lines), 13)
        self.assertEqual(lines[10:], ["   9       yes", "  10       yes", "  11       yes"])

    def test_numbers_of_all_lengths(self):
        schema = Schema("a", [("a", [("number", "n"), ("flag", "f")])])
        for count in range(1, 31):
            for number in (10 ** count - 1, 1 - 10 ** count, 10 ** (count - 1), 0, 1):
                text = Store(schema, {"a": [(number, False)]}).printed("a")
                self.assertEqual(text, expected([("number", "n"), ("flag", "f")], [(number, False)]))
                self.assertEqual(text.split("\n")[1], "   0  " + str(number).rjust(8) + "        no")

    def test_one_and_true_are_shown_as_what_they_are(self):
        schema = Schema("a", [("a", [("number", "n"), ("flag", "f")])])
        store = Store(schema, {"a": [(1, True), (0, False)]})
        self.assertEqual(store.printed("a").split("\n")[1:], ["   0         1       yes", "   1         0        no"])

    def test_many_tables(self):
        for chance in chances(200):
            tables = some_tables(chance)
            rows = some_rows(chance, tables, chance.choice([2, 12]))
            store = Store(Schema(tables[0][0], tables), rows)
            for name, columns in tables:
                self.assertEqual(store.printed(name), expected(columns, rows[name]))
