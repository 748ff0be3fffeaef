"""Kept parts of stores, and how many rows they have at most."""

import unittest

from listandpage.checks import Check
from listandpage.errors import Mismatch, NoRow, TooMany
from listandpage.parts import bounds, kept_part
from listandpage.questions import Question
from listandpage.rights import all_of, any_of, everything, nothing
from listandpage.schemas import Schema
from listandpage.stores import Store
from tests.meanings import some_spelled
from tests.samples import EXAMPLE_TABLES, chances, deep, example, example_rows, some_rows, some_schema, tables_of
from tests.settling import Combined, bounds_of, kept_rows

ROWS = {
    "org": [("a", True), ("b", False), (None, True)],
    "person": [(True, 1, "a"), (False, None, None), (False, 2, "b")],
    "team": [(0, 1), (0, 2), (1, 3), (0, 2)],
    "member": [(0, "x"), (1, "y"), (1, "x"), (None, "x"), (3, "x"), (1, "x")],
    "note": [(1, 0, 1, False), (2, 2, 1, True), (5, 1, 1, True), (2, None, 4, True), (0, 2, 5, False)],
}
NONE = {table: [] for table in ROWS}


def some_right(chance, schema, table, uses):
    """A random right, often one that is put together."""
    made = [some_spelled(chance, schema, chance.choice(["question", "check"]), chance.choice([2, 5, 9]), uses, table)
            for _ in range(2)]
    while chance.random() < 0.3:
        sign = chance.choice("&|-~")
        try:
            made[0] = Combined(sign, [made[0]] if sign == "~" else [made[0], chance.choice(made)])
        except TooMany:
            return made[1]
    return made[0]


class KeptPartTest(unittest.TestCase):
    def kept(self, text, thing=0, user=1, other="false", table="org"):
        rights = [(Check if "return" in each else Question)(deep(), table, each) for each in (text, other)]
        store = Store(deep(), ROWS)
        found = kept_part(*rights, store, thing, user)
        self.assertEqual(list(found), list(deep().tables))
        self.assertEqual(kept_part(*rights[::-1], store, thing, user), found)
        return {name: rows for name, rows in found.items() if rows}

    def test_thing_and_user_with_what_they_link_to(self):
        self.assertEqual(self.kept("true"), {"org": [0], "person": [1]})
        self.assertEqual(self.kept("true", 0, 2), {"org": [0, 2], "person": [2]})
        self.assertEqual(self.kept("thing.by = user", 2, 0, table="note"),
                         {"org": [0, 1], "person": [0, 1], "team": [1], "member": [5], "note": [2]})

    def test_the_first_row_that_counts(self):
        self.assertEqual(self.kept("some thing.teams as t (t.size = 2)"), {"org": [0], "person": [1], "team": [1]})
        self.assertEqual(self.kept("no thing.teams as t (t.size = 2)"), {"org": [0], "person": [1], "team": [1]})
        self.assertEqual(self.kept("some thing.teams as t (t.size = 7)"), {"org": [0], "person": [1]})
        self.assertEqual(self.kept("return all(t.size == 1 for t in thing.teams)"),
                         {"org": [0], "person": [1], "team": [1]})
        self.assertEqual(self.kept("for t in thing.teams:\n    if t.size > 1:\n        return False\nreturn True"),
                         {"org": [0], "person": [1], "team": [1]})
        self.assertEqual(self.kept("for t in thing.teams:\n    x = t\nreturn True"), {"org": [0], "person": [1]})
        self.assertEqual(self.kept("return user.nick in [m.role for m in thing.members]", 1, 0, table="team"),
                         {"org": [0, 1], "person": [0], "team": [1]})

    def test_walks_of_both_rights(self):
        self.assertEqual(self.kept("some thing.teams as t (t.size = 2)", other="some thing.teams as t (t.size = 1)"),
                         {"org": [0], "person": [1], "team": [0, 1]})

    def test_walks_within_walks(self):
        # Team 1 is the first that counts, of its members 2, of the notes of this one 1; person 2 links to org 2.
        inner = "some t.members as m (some m.notes as n (n.public))"
        self.assertEqual(self.kept(f"some thing.teams as t ({inner})"),
                         {"org": [0, 2], "person": [1, 2], "team": [1], "member": [2], "note": [1]})
        # Of a team that is kept for another reason the first member that counts is kept, too.
        other = "some thing.teams as t (t.size = 1)"
        text = "some thing.teams as t (some t.members as m (some m.notes as n (true)))"
        self.assertEqual(self.kept(text, other=other)["team"], [0])
        self.assertEqual(self.kept(text, other="some thing.teams as t (t.size = 2)"),
                         {"org": [0, 1, 2], "person": [0, 1, 2], "team": [0, 1], "member": [0, 1], "note": [0, 4]})

    def test_both_walks_of_in(self):
        # Member 2 is the first by which it is not false, as its note 3 lacks; note 2 makes it true.
        rows = dict(ROWS, note=[(1, 0, 1, False), (1, None, 1, False), (1, 2, 1, True), (1, 2, 1, True)])
        store = Store(deep(), rows)
        question = Question(deep(), "member", "user in thing.notes.by")
        check = Check(deep(), "member", "return user in [n.by for n in thing.notes]")
        nobody = nothing(deep(), "member")
        self.assertEqual(kept_part(question, nobody, store, 1, 2)["note"], [1, 2])
        self.assertEqual(kept_part(check, nobody, store, 1, 2)["note"], [2])
        self.assertEqual(kept_part(question, nobody, store, 1, 0)["note"], [0])
        self.assertEqual(kept_part(question, nobody, store, 1, 1)["note"], [1])
        self.assertEqual(kept_part(check, nobody, store, 1, 1)["note"], [])

    def test_asked_in_the_whole_store(self):
        # Team 1 does not count as its member 1, which is not kept otherwise, has role y.
        text = "some thing.teams as t (no t.members as m (m.role = 'y') and t.size > 1)"
        self.assertEqual(self.kept(text), {"org": [0], "person": [1], "team": [3]})
        rows = self.kept("some thing.teams as t (no t.members as m (m.role = 'y') and t.size > 1)",
                         other="some thing.teams as t (t.size = 2)")
        self.assertEqual(rows, {"org": [0], "person": [1], "team": [1, 3], "member": [1]})

    def test_random_rights(self):
        grown = 0
        for chance in chances(600):
            schema = some_schema(chance)
            table = chance.choice(schema.tables)
            uses = {name: some_spelled(chance, schema, chance.choice(["question", "check"]), 3) for name in "ab"}
            one, two = some_right(chance, schema, table, uses), some_right(chance, schema, table, uses)
            self.assertEqual(bounds(one.right, two.right), bounds_of(one, two, schema))
            store = Store(schema, some_rows(chance, tables_of(schema), 8))
            before = store.copy()
            things, users = len(store.rows(table)), len(store.rows(schema.user))
            if not things or not users:
                continue
            thing, user = chance.randrange(things), chance.randrange(users)
            kept = kept_part(one.right, two.right, store, thing, user)
            self.assertEqual(kept, kept_rows(one, two, store, thing, user))
            self.assertEqual(list(kept), list(schema.tables))
            most = bounds(one.right, two.right)
            self.assertEqual(list(most), list(schema.tables))
            for name in schema.tables:
                self.assertLessEqual(len(kept[name]), most[name])
            part = store.part(kept)
            place = kept[table].index(thing), kept[schema.user].index(user)
            for right in (one.right, two.right):
                self.assertIs(right.admits(part, *place), right.admits(store, thing, user))
            self.assertEqual(store, before)
            grown += sum(map(len, kept.values())) > 3
        self.assertGreater(grown, 100)

    def test_results_are_new(self):
        store = Store(deep(), ROWS)
        right = everything(deep(), "org")
        kept_part(right, right, store, 0, 0)["org"].append(7)
        kept_part(right, right, store, 0, 0).clear()
        bounds(right, right)["org"] = 9
        self.assertEqual(kept_part(right, right, store, 0, 0)["org"], [0, 1])
        self.assertEqual(bounds(right, right), {"org": 2, "person": 1, "team": 0, "member": 0, "note": 0})

    def test_errors(self):
        store = Store(example(), example_rows())
        right = everything(example(), "doc")
        other = Store(Schema("team", EXAMPLE_TABLES), example_rows())
        for wrong in (everything(example(), "team"), everything(Schema("team", EXAMPLE_TABLES), "doc")):
            for asked in (lambda one, two: kept_part(one, two, other, None, 9), bounds):
                for pair in ((right, wrong), (wrong, right)):
                    with self.assertRaises(Mismatch) as caught:
                        asked(*pair)
                    self.assertEqual(caught.exception.at, 1)
        with self.assertRaises(Mismatch) as caught:
            kept_part(right, right, other, None, 9)
        self.assertEqual(caught.exception.at, -1)
        for thing, user, fields in ((None, 9, ("doc", None)), (2, 0, ("doc", 2)), (True, 0, ("doc", True)),
                                    (0, 3, ("person", 3)), (0, "0", ("person", "0"))):
            with self.assertRaises(NoRow) as caught:
                kept_part(right, right, store, thing, user)
            self.assertEqual((caught.exception.table, caught.exception.at), fields)

    def test_by_name(self):
        store = Store(example(), example_rows())
        right = everything(example(), "doc")
        kept = kept_part(user=1, thing=0, store=store, two=right, one=right)
        self.assertEqual(kept, {"team": [], "person": [1], "doc": [0], "member": []})
        self.assertEqual(bounds(two=right, one=right)["person"], 2)


class BoundsTest(unittest.TestCase):
    def check(self, texts, table, numbers, user="person"):
        rights = [(Check if "return" in text else Question)(deep(user), table, text) for text in texts]
        self.assertEqual(bounds(*rights), dict(zip(deep().tables, numbers)))
        self.assertEqual(bounds(*rights[::-1]), dict(zip(deep().tables, numbers)))

    def test_ways_alone(self):
        self.check(["true", "false"], "org", [2, 1, 0, 0, 0])
        self.check(["true", "false"], "org", [2, 0, 0, 0, 0], "org")
        # A note leads to an org by its member and by its person.
        self.check(["true", "false"], "note", [3, 2, 1, 1, 1])
        self.check(["true", "false"], "note", [4, 2, 2, 2, 2], "note")

    def test_walks(self):
        self.check(["some thing.teams as t (true)", "false"], "org", [3, 1, 1, 0, 0])
        self.check(["some thing.teams as t (true)", "no thing.teams as t (true)"], "org", [4, 1, 2, 0, 0])
        self.check(["user in thing.notes.by", "false"], "member", [6, 3, 1, 1, 2])
        self.check(["return user in [n.by for n in thing.notes]", "false"], "member", [4, 2, 1, 1, 1])

    def test_walks_within_walks(self):
        inner = "some t.members as m (some m.notes as n (true))"
        # Two teams, a member for each, and a note for each pair of these; a note leads to an org in two ways.
        self.check([f"some thing.teams as t ({inner})", "some thing.teams as t (true)"], "org",
                   [2 + 2 + 2 + 2 * 4, 1 + 4, 2, 2, 4])
