"""The interface: where things are defined, and that parameters may be passed by their names."""

import inspect
import unittest

from listandpage.schemas import Schema
from listandpage.stores import Store
from tests.samples import EXAMPLE, EXAMPLE_TABLES, example, example_rows

SCHEMA_METHODS = {
    "__init__": ["self", "user", "tables"],
    "columns": ["self", "table"],
    "lists": ["self", "table"],
    "filled": ["self"],
}
STORE_METHODS = {
    "__init__": ["self", "schema", "rows"],
    "rows": ["self", "table"],
    "value": ["self", "table", "at", "column"],
    "listed": ["self", "table", "at", "name"],
    "add": ["self", "table", "row"],
    "change": ["self", "table", "at", "column", "value"],
    "copy": ["self"],
    "part": ["self", "kept"],
    "printed": ["self", "table"],
}


class InterfaceTest(unittest.TestCase):
    def test_methods_are_defined_in_the_class_itself(self):
        for made, methods in ((Schema, SCHEMA_METHODS), (Store, STORE_METHODS)):
            for name, parameters in methods.items():
                self.assertIn(name, vars(made))
                self.assertEqual(list(inspect.signature(getattr(made, name)).parameters), parameters)
        for name in ("__len__", "__contains__", "__eq__", "__str__"):
            self.assertIn(name, vars(Schema))
        for name in ("__len__", "__contains__", "__eq__"):
            self.assertIn(name, vars(Store))
        self.assertIs(type(vars(Schema)["read"]), classmethod)
        self.assertIs(type(vars(Schema)["is_name"]), staticmethod)

    def test_classes_are_defined_in_their_files(self):
        self.assertEqual(Schema.__module__, "listandpage.schemas")
        self.assertEqual(Store.__module__, "listandpage.stores")

    def test_schemas_by_name(self):
        schema = Schema(tables=EXAMPLE_TABLES, user="person")
        self.assertEqual(schema, example())
        self.assertEqual(schema.columns(table="team"), (("word", "code", True),))
        self.assertEqual(schema.lists(table="team"), {"members": ("member", "team")})
        self.assertEqual(Schema.read(text=EXAMPLE), schema)
        self.assertIs(Schema.is_name(value="team"), True)
        self.assertIs(Schema.is_name(value="thing"), False)

    def test_stores_by_name(self):
        store = Store(rows=example_rows(), schema=example())
        self.assertEqual(store.rows(table="team"), example_rows()["team"])
        self.assertEqual(store.value(column="role", at=1, table="member"), "all")
        self.assertEqual(store.listed(name="members", at=2, table="team"), [0, 2, 3])
        self.assertEqual(store.add(row=(None,), table="team"), 3)
        self.assertIsNone(store.change(value="red", column="code", at=3, table="team"))
        self.assertEqual(store.value("team", 3, "code"), "red")
        self.assertEqual(store.part(kept={"team": [3]}), Store(example(), {"team": [("red",)]}))
        self.assertEqual(store.part(kept={"team": [3]}).printed(table="team"), "          code\n   0       red")
