"""The interface: where things are defined, and that parameters may be passed by their names."""

import inspect
import unittest

from listandpage import cases, judging, mends, parts, rights, runs
from listandpage.books import Book
from listandpage.checks import Check
from listandpage.families import Family
from listandpage.judging import Verdict
from listandpage.mends import Mending
from listandpage.questions import Question
from listandpage.rights import Listing, Right, all_of, any_of, everything, nothing
from listandpage.runs import Run
from listandpage.schemas import Schema
from listandpage.stores import Store
from tests.samples import EXAMPLE, EXAMPLE_TABLES, example, example_rows

SCHEMA_METHODS = {
    "__init__": ["self", "user", "tables"],
    "columns": ["self", "table"],
    "lists": ["self", "table"],
    "filled": ["self"],
}
STORE_METHODS = {
    "__init__": ["self", "schema", "rows"],
    "rows": ["self", "table"],
    "value": ["self", "table", "at", "column"],
    "listed": ["self", "table", "at", "name"],
    "add": ["self", "table", "row"],
    "change": ["self", "table", "at", "column", "value"],
    "copy": ["self"],
    "part": ["self", "kept"],
    "printed": ["self", "table"],
}
RIGHT_METHODS = {
    "admits": ["self", "store", "thing", "user"],
    "__call__": ["self", "store", "user"],
    "walks": ["self"],
    "weight": ["self"],
    "filled": ["self"],
    "__and__": ["self", "other"],
    "__or__": ["self", "other"],
    "__sub__": ["self", "other"],
    "__invert__": ["self"],
    "__le__": ["self", "other"],
    "__lt__": ["self", "other"],
    "__eq__": ["self", "other"],
}
SPELLED_METHODS = {"__init__": ["self", "schema", "table", "text", "uses"], "tests": ["self"], "__str__": ["self"]}
QUESTION_METHODS = {**SPELLED_METHODS, "value": ["self", "store", "thing", "user"]}
BOOK_METHODS = {
    "__init__": ["self", "schema"],
    "names": ["self"],
    "question": ["self", "name", "table", "text"],
    "check": ["self", "name", "table", "text"],
    "needless": ["self", "names"],
    "covers": ["self", "names"],
}
FAMILY_METHODS = {
    "__init__": ["self", "schema", "table", "uses"],
    "add": ["self", "name", "bases", "text"],
    "kinds": ["self"],
    "order": ["self", "name"],
    "right": ["self", "name"],
    "dispatch": ["self", "column"],
    "wider": ["self"],
}
FUNCTIONS = {
    rights: {
        "any_of": ["first", "rest"],
        "all_of": ["first", "rest"],
        "nothing": ["schema", "table"],
        "everything": ["schema", "table"],
    },
    runs: {
        "what_if": ["store", "changes", "right", "thing", "user"],
        "steps": ["check", "store", "thing", "user"],
        "run": ["check", "store", "thing", "user"],
    },
    parts: {"kept_part": ["one", "two", "store", "thing", "user"], "bounds": ["one", "two"]},
    cases: {"is_tree": ["one", "two", "thing", "least"], "is_certificate": ["one", "two", "thing"]},
    judging: {"parts_by_lacking": ["one", "two"], "never": ["right"], "judge": ["one", "two"]},
    mends: {"mended": ["right", "mends"], "least_mends": ["one", "two", "pool"]},
}


class InterfaceTest(unittest.TestCase):
    def test_methods_are_defined_in_the_class_itself(self):
        for made, methods in ((Schema, SCHEMA_METHODS), (Store, STORE_METHODS), (Right, RIGHT_METHODS),
                              (Question, QUESTION_METHODS), (Check, SPELLED_METHODS), (Book, BOOK_METHODS),
                              (Family, FAMILY_METHODS), (Verdict, {"certificate": ["self"]})):
            for name, parameters in methods.items():
                self.assertIn(name, vars(made))
                self.assertEqual(list(inspect.signature(getattr(made, name)).parameters), parameters)
        for name in ("__len__", "__contains__", "__eq__", "__str__"):
            self.assertIn(name, vars(Schema))
        for name in ("__len__", "__contains__", "__eq__"):
            self.assertIn(name, vars(Store))
        for name in ("__len__", "__contains__", "__iter__"):
            self.assertIn(name, vars(Listing))
        for name in ("__len__", "__contains__", "__iter__", "__getitem__", "__setitem__"):
            self.assertIn(name, vars(Book))
        for name in ("__len__", "__bool__"):
            self.assertIn(name, vars(Verdict))
        self.assertIn("__bool__", vars(Mending))
        self.assertIs(type(vars(Book)["of"]), classmethod)
        self.assertEqual(list(inspect.signature(Book.of).parameters), ["schema", "rights"])
        self.assertIs(type(vars(Schema)["read"]), classmethod)
        self.assertIs(type(vars(Schema)["is_name"]), staticmethod)

    def test_classes_are_defined_in_their_files(self):
        self.assertEqual(Schema.__module__, "listandpage.schemas")
        self.assertEqual(Store.__module__, "listandpage.stores")
        self.assertEqual(Right.__module__, "listandpage.rights")
        self.assertEqual(Listing.__module__, "listandpage.rights")
        self.assertEqual(Question.__module__, "listandpage.questions")
        self.assertEqual(Check.__module__, "listandpage.checks")
        self.assertTrue(issubclass(Question, Right) and issubclass(Check, Right))
        self.assertEqual(Run.__module__, "listandpage.runs")
        self.assertEqual(Verdict.__module__, "listandpage.judging")
        self.assertEqual(Mending.__module__, "listandpage.mends")
        self.assertEqual(Book.__module__, "listandpage.books")
        self.assertEqual(Family.__module__, "listandpage.families")

    def test_functions(self):
        for module, functions in FUNCTIONS.items():
            for name, parameters in functions.items():
                function = getattr(module, name)
                self.assertEqual(function.__module__, module.__name__)
                self.assertEqual(list(inspect.signature(function).parameters), parameters)
        least = inspect.signature(cases.is_tree).parameters["least"]
        self.assertEqual((least.kind, least.default), (inspect.Parameter.KEYWORD_ONLY, 0))
        self.assertTrue(inspect.isgeneratorfunction(runs.steps))

    def test_uses_are_passed_by_name_only(self):
        for made, text in ((Question, "true"), (Check, "return True")):
            parameter = inspect.signature(made).parameters["uses"]
            self.assertIs(parameter.kind, inspect.Parameter.KEYWORD_ONLY)
            self.assertIsNone(parameter.default)
            with self.assertRaises(TypeError):
                made(example(), "doc", text, {})
            self.assertEqual(made(example(), "doc", text, uses=None).weight(), 1)

    def test_attributes_are_set_on_each_object(self):
        made = Question(example(), "doc", "true")
        for right in (made, Check(example(), "doc", "return True"), ~made, any_of(made), made.filled()):
            self.assertLessEqual({"schema", "table"}, set(vars(right)))
        for right in (made, Check(example(), "doc", "return True")):
            self.assertIn("text", vars(right))
        store = Store(example(), example_rows())
        self.assertIn("things", vars(made(store, 0)))
        self.assertEqual(vars(Right)["MOST"], 100)
        done = runs.run(Check(example(), "doc", "return True"), store, 0, 0)
        self.assertLessEqual({"opens", "line", "lines", "around"}, set(vars(done)))
        self.assertIn("way", vars(judging.judge(made, made)))
        self.assertLessEqual({"least", "lesser"}, set(vars(mends.least_mends(made, made, []))))
        parameters = inspect.signature(Family).parameters
        self.assertIs(parameters["uses"].kind, inspect.Parameter.KEYWORD_ONLY)
        parameters = inspect.signature(Family.add).parameters
        self.assertEqual((parameters["bases"].default, parameters["text"].default), ((), None))

    def test_rights_by_name(self):
        schema = example()
        store = Store(schema, example_rows())
        question = Question(text="a(thing.team)", table="doc", schema=schema, uses={"a": everything(schema, "team")})
        check = Check(text="return a(thing.team)", schema=schema, uses={"a": everything(schema, "team")}, table="doc")
        self.assertIsNone(question.value(user=0, thing=0, store=store))
        self.assertIs(question.value(store=store, user=0, thing=1), True)
        for right in (question, check, all_of(first=question), any_of(first=check)):
            self.assertIs(right.admits(user=0, thing=0, store=store), False)
            self.assertIs(right.admits(thing=1, user=0, store=store), True)
            self.assertEqual(right(user=0, store=store).things, (1,))
        self.assertEqual(nothing(table="doc", schema=schema)(store=store, user=1).things, ())
        self.assertEqual(everything(table="doc", schema=schema)(user=1, store=store).things, (0, 1))

    def test_schemas_by_name(self):
        schema = Schema(tables=EXAMPLE_TABLES, user="person")
        self.assertEqual(schema, example())
        self.assertEqual(schema.columns(table="team"), (("word", "code", True),))
        self.assertEqual(schema.lists(table="team"), {"members": ("member", "team")})
        self.assertEqual(Schema.read(text=EXAMPLE), schema)
        self.assertIs(Schema.is_name(value="team"), True)
        self.assertIs(Schema.is_name(value="thing"), False)

    def test_stores_by_name(self):
        store = Store(rows=example_rows(), schema=example())
        self.assertEqual(store.rows(table="team"), example_rows()["team"])
        self.assertEqual(store.value(column="role", at=1, table="member"), "all")
        self.assertEqual(store.listed(name="members", at=2, table="team"), [0, 2, 3])
        self.assertEqual(store.add(row=(None,), table="team"), 3)
        self.assertIsNone(store.change(value="red", column="code", at=3, table="team"))
        self.assertEqual(store.value("team", 3, "code"), "red")
        self.assertEqual(store.part(kept={"team": [3]}), Store(example(), {"team": [("red",)]}))
        self.assertEqual(store.part(kept={"team": [3]}).printed(table="team"), "          code\n   0       red")
