"""Books: rights under names, and which of some are needless or cover the others."""

import itertools
import unittest

from listandpage.books import Book
from listandpage.checks import Check
from listandpage.errors import BadName, InBook, ListandpageError, Mismatch, NoName, TooMany
from listandpage.judging import judge
from listandpage.questions import Question
from listandpage.rights import any_of, everything, nothing
from listandpage.schemas import Schema
from listandpage.stores import Store
from tests.meanings import some_spelled
from tests.samples import (
    EXAMPLE_TABLES, NO_NAMES, NO_TEXTS, chances, deep, example, example_rows, loose,
)
from tests.test_trees import read

NO_KEYS = tuple(value for value in NO_NAMES if value != "team")


class BookTest(unittest.TestCase):
    def setUp(self):
        self.book = Book(example())
        self.one = everything(example(), "doc")
        self.two = nothing(example(), "team")

    def names(self, *expected):
        self.assertEqual(self.book.names(), list(expected))
        self.assertEqual(list(self.book), list(expected))
        self.assertEqual(len(self.book), len(expected))
        for name in expected:
            self.assertIn(name, self.book)

    def test_rights_under_names(self):
        self.names()
        self.book["b"] = self.one
        self.book["a"] = self.two
        self.names("b", "a")
        self.assertIs(self.book["b"], self.one)
        self.assertIs(self.book["a"], self.two)
        self.book["b"] = self.two
        self.names("b", "a")
        self.assertIs(self.book["b"], self.two)
        self.book.names().append("c")
        self.names("b", "a")

    def test_wrong_names(self):
        self.book["b"] = self.one
        for wrong in (*NO_KEYS, "thing", "super", self.one, self.book):
            with self.assertRaises(BadName) as caught:
                self.book[wrong] = everything(deep(), "org")
            self.assertIs(caught.exception.name, wrong)
            with self.assertRaises(NoName) as caught:
                self.book[wrong]
            self.assertIs(caught.exception.name, wrong)
            self.assertIs(wrong in self.book, False)
        for name in ("b", "c"):
            with self.assertRaises(Mismatch) as caught:
                self.book[name] = everything(Schema("team", EXAMPLE_TABLES), "doc")
            self.assertEqual(caught.exception.at, -1)
        with self.assertRaises(NoName) as caught:
            self.book["c"]
        self.assertIsInstance(caught.exception, LookupError)
        self.names("b")
        self.assertIs(self.book["b"], self.one)

    def test_of(self):
        self.book = Book.of(example(), z=self.one, a=self.two, names=self.one)
        self.names("z", "a", "names")
        self.assertIs(self.book["a"], self.two)
        self.assertEqual(len(Book.of(example())), 0)
        self.assertEqual(Book.of(schema=example(), of=self.one).names(), ["of"])
        with self.assertRaises(BadName) as caught:
            Book.of(example(), a=self.one, thing=everything(deep(), "org"), b=everything(deep(), "org"))
        self.assertEqual(caught.exception.name, "thing")
        with self.assertRaises(Mismatch):
            Book.of(example(), a=everything(deep(), "org"), thing=self.one)

    def test_spelled_rights_use_what_is_there(self):
        first = self.book.question("own", "doc", "thing.owner = user")
        self.assertIs(self.book["own"], first)
        self.assertIsInstance(first, Question)
        second = self.book.check("page", "doc", "return own(thing) or thing.public")
        self.assertIsInstance(second, Check)
        self.assertEqual(second.weight(), 1 + 2 + 2)
        self.names("own", "page")
        third = self.book.question("own", "doc", "page(thing) and own(thing)")
        self.names("own", "page")
        self.assertEqual(third.weight(), 1 + 5 + 1 + 2)
        store = Store(example(), example_rows())
        # A right that used the old one keeps it.
        self.assertTrue(judge(second, read(example(), "doc", "thing.owner = user or thing.public")))
        self.assertEqual(third(store, 0).things, first(store, 0).things)
        self.book["own"] = nothing(example(), "doc")
        self.assertTrue(judge(second, read(example(), "doc", "thing.owner = user or thing.public")))

    def test_a_right_does_not_use_itself(self):
        with self.assertRaises(InBook) as caught:
            self.book.question("own", "doc", "thing.public or own(thing)")
        self.assertEqual(vars(caught.exception), {"name": "own", "line": 0, "at": 16})
        self.names()

    def test_wrong_texts(self):
        self.book.question("own", "doc", "thing.owner = user")
        for put, text, line, at in (
                (self.book.question, "thing.public or", 0, 15), (self.book.question, "thing.no", 0, 6),
                (self.book.check, "return own(thing)\nreturn owner(thing)", 1, 7), (self.book.check, "", 0, 0)):
            with self.assertRaises(InBook) as caught:
                put("new", "doc", text)
            self.assertEqual(vars(caught.exception), {"name": "new", "line": line, "at": at})
            self.assertIsInstance(caught.exception, ListandpageError)
        for text in (value for value in NO_TEXTS if not isinstance(value, str)):
            with self.assertRaises(InBook) as caught:
                self.book.question("new", "doc", text)
            self.assertEqual((caught.exception.line, caught.exception.at), (0, -1))
            with self.assertRaises(InBook) as caught:
                self.book.check("own", "doc", text)
            self.assertEqual((caught.exception.line, caught.exception.at), (-1, -1))
        self.names("own")
        self.assertEqual(self.book["own"].weight(), 2)

    def test_errors_in_order(self):
        heavy = " or ".join(["thing.public"] * 51)
        for put, text in ((self.book.question, heavy), (self.book.check, "return " + heavy)):
            for wrong in NO_KEYS:
                with self.assertRaises(BadName) as caught:
                    put(wrong, None, None)
                self.assertIs(caught.exception.name, wrong)
                if wrong != "team":
                    with self.assertRaises(NoName) as caught:
                        put("new", wrong, None)
                    self.assertIs(caught.exception.name, wrong)
            with self.assertRaises(InBook):
                put("new", "doc", text + " late")
            with self.assertRaises(TooMany) as caught:
                put("new", "doc", text)
            self.assertEqual(caught.exception.what, "weight")
        self.names()

    def test_by_name(self):
        book = Book(schema=example())
        book.question(text="true", name="a", table="doc")
        book.check(text="return True", table="doc", name="b")
        self.assertEqual(book.names(), ["a", "b"])
        self.assertEqual(book.needless("a", "b"), [1])


class CoverTest(unittest.TestCase):
    def setUp(self):
        self.book = Book(example())
        self.book.question("public", "doc", "thing.public")
        self.book.check("page", "doc", "return thing.public")
        self.book.question("low", "doc", "thing.level < 3")
        self.book.question("high", "doc", "thing.level >= 3")
        self.book.question("never", "doc", "thing.public and not thing.public")
        self.book.question("team", "team", "true")

    def test_needless(self):
        self.assertEqual(self.book.needless(), [])
        self.assertEqual(self.book.needless("public"), [])
        self.assertEqual(self.book.needless("never"), [0])
        self.assertEqual(self.book.needless("public", "page", "low", "public"), [1, 3])
        self.assertEqual(self.book.needless("low", "high", "public"), [2])
        self.assertEqual(self.book.needless("public", "low", "high"), [])
        self.assertEqual(self.book.needless("low", "public", "high", "page"), [3])

    def test_covers(self):
        self.assertEqual(self.book.covers(), [()])
        self.assertEqual(self.book.covers("never", "never"), [()])
        self.assertEqual(self.book.covers("public", "page"), [(0,), (1,)])
        self.assertEqual(self.book.covers("public", "low", "high"), [(1, 2)])
        self.assertEqual(self.book.covers("low", "public", "page", "never"), [(0, 1), (0, 2)])
        self.assertEqual(self.book.covers("low", "high", "low", "public"), [(0, 1), (1, 2)])

    def test_results_are_new(self):
        self.book.covers("never").append((0,))
        self.book.needless("never").append(4)
        self.assertEqual((self.book.covers("never"), self.book.needless("never")), ([()], [0]))

    def test_sets_of_words(self):
        schema = Schema("a", [("a", [("word", "w", False)])])
        words = ["a", "b", "c", "d"]
        for chance in chances(150):
            book = Book(schema)
            sets = {}
            for name in "pqrs":
                sets[name] = set(chance.sample(words, chance.choice([0, 1, 1, 2, 2, 3])))
                text = ",".join(f"'{word}'" for word in sorted(sets[name]))
                book.question(name, "a", f"thing.w in ({text})" if text else "false")
            names = [chance.choice("pqrs") for _ in range(chance.randint(0, 4))]
            needless = [at for at, name in enumerate(names)
                        if sets[name] <= set().union(*[sets[before] for before in names[:at]])]
            self.assertEqual(book.needless(*names), needless)
            goal = set().union(*[sets[name] for name in names])
            covers = []
            for size in range(len(names) + 1):
                covers = covers or [chosen for chosen in itertools.combinations(range(len(names)), size)
                                    if set().union(*[sets[names[at]] for at in chosen]) == goal]
            self.assertEqual(book.covers(*names), covers)

    def test_as_judged(self):
        for chance in chances(60):
            schema = chance.choice([deep(), loose()])
            table = chance.choice(schema.tables)
            book = Book(schema)
            rights = []
            for name in "pqr":
                made = some_spelled(chance, schema, chance.choice(["question", "check"]), 2, {}, table)
                book[name] = made.right
                rights.append(made.right)
            try:
                found = book.needless("p", "q", "r")
            except TooMany:
                continue
            try:
                expected = [at for at, right in enumerate(rights)
                            if right <= (any_of(*rights[:at]) if at else nothing(schema, table))]
            except TooMany:
                continue
            self.assertEqual(found, expected)

    def test_errors_in_order(self):
        book = self.book
        book.question("heavy", "doc", " or ".join(["thing.public"] * 4))
        book.question("words", "doc", "thing.team.code in ('a','b','c')")
        book.question("more", "doc", "thing.team.code in ('d','e')")
        for asked in (book.needless, book.covers):
            for wrong in (*NO_KEYS, "none", "team"[:3]):
                with self.assertRaises(NoName) as caught:
                    asked("heavy", "team", wrong, None)
                self.assertIs(caught.exception.name, wrong)
            for names, at in ((("heavy", "heavy", "team", "team"), 2), (("team", "heavy", "public"), 1)):
                with self.assertRaises(Mismatch) as caught:
                    asked(*names)
                self.assertEqual(caught.exception.at, at)
            # 8 and 4 weigh 12, taken twice 24.
            asked("heavy", "public", "page")
            with self.assertRaises(TooMany) as caught:
                asked("heavy", "public", "page", "public")
            self.assertEqual(caught.exception.what, "weight")
            with self.assertRaises(TooMany) as caught:
                asked("words", "more")
            self.assertEqual(caught.exception.what, "words")
            with self.assertRaises(TooMany) as caught:
                asked("words", "more", "heavy")
            self.assertEqual(caught.exception.what, "weight")
            asked("words", "words", "public")
