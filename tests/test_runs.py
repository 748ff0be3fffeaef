"""Runs of checks line by line, and what a right admits on a store with changes."""

import unittest

from listandpage.checks import Check
from listandpage.errors import BadStore, Mismatch, NoName, NoRow
from listandpage.questions import Question
from listandpage.rights import everything
from listandpage.runs import Run, run, steps, what_if
from listandpage.schemas import Schema
from listandpage.stores import Store
from tests.meanings import Meaning, pairs_of, some_spelled
from tests.samples import EXAMPLE_TABLES, NO_NAMES, chances, deep, example, example_rows, some_rows, some_schema, tables_of
from tests.spelled import lines_of

LONG = """t = thing.team
if t is None:
    return thing.owner == user
else:
    for m in t.members:
        p = m.person
        if p == user:
            if m.role in ('lead', 'all'):
                return True
            x = m.team
        if m.role == 'x':
            y = p.team
    z = user
for k in user.places:
    if k.team == t:
        return False
    if k.role != 'lead':
        return False
return thing.public
w = thing"""


class Follower:
    """Follows a spelled check as point 18 says: the pairs of lines and values, and the `return` at the end."""

    def __init__(self, spelled, store, thing, user):
        uses = {name: self.asked(used, store) for name, used in spelled.uses.items()}
        self.meaning = Meaning(store, user, uses)
        self.told = []
        self.ended = (False, -1, ())
        names = {"thing": (spelled.table, thing), "user": (store.schema.user, user)}
        self.block(spelled.tree, 0, names, ())

    @staticmethod
    def asked(used, store):
        return lambda row, same: used.value(store, row, same) is True

    def block(self, block, line, names, around):
        """Whether a return is met."""
        names = dict(names)
        for statement in block:
            if self.statement(statement, line, names, around):
                return True
            line += lines_of(statement)
        return False

    def statement(self, statement, line, names, around):
        kind = statement[0]
        if kind == "let":
            names[statement[1]] = (self.meaning.ends(statement[2], names)[0], self.meaning.end(statement[2], names))
            self.told.append((line, names[statement[1]][1]))
            return False
        if kind == "for":
            inner = self.meaning.rows(statement[2], statement[1], names)
            self.told.append((line, len(inner)))
            return any(self.block(statement[3], line + 1, each, around + (each[statement[1]],)) for each in inner)
        truth = self.meaning.check(statement[1], names)
        self.told.append((line, truth))
        if kind == "return":
            self.ended = (truth, line, around)
            return True
        if truth:
            return self.block(statement[2], line + 1, names, around)
        behind = line + 2 + sum(map(lines_of, statement[2]))
        return self.block(statement[3] or [], behind, names, around)


class RunTest(unittest.TestCase):
    def check_run(self, text, thing, user, told, line, around=()):
        schema = example()
        store = Store(schema, example_rows())
        check = Check(schema, "doc", text)
        self.assertEqual(list(steps(check, store, thing, user)), told)
        done = run(check, store, thing, user)
        self.assertIsInstance(done, Run)
        self.assertEqual((done.line, done.lines, done.around), (line, tuple(at for at, _ in told), around))
        self.assertIs(done.opens, check.admits(store, thing, user))

    def test_a_long_check(self):
        self.check_run(LONG, 0, 0, [(0, None), (1, True), (2, False)], 2)
        # The members of team 2 are 0, 2 and 3, of which the first two are places of person 0.
        told = [(0, 2), (1, False), (4, 3), (5, 0), (6, True), (7, True), (8, True)]
        self.check_run(LONG, 1, 0, told, 8, (("member", 0),))

    def test_loops_begin_once(self):
        told = [(0, 2), (1, False), (4, 3), (5, 0), (6, False), (10, False), (5, 0), (6, False), (10, False),
                (5, 1), (6, True), (7, False), (9, 2), (10, True), (11, None), (12, 1), (13, 1), (14, True), (15, False)]
        self.check_run(LONG, 1, 1, told, 15, (("member", 3),))

    def test_without_a_return(self):
        self.check_run("x = thing.owner\nfor p in x.places:\n    y = p.team", 0, 0, [(0, 1), (1, 1), (2, 2)], -1)
        self.check_run("for p in user.places:\n    return True", 0, 2, [(0, 0)], -1)
        self.check_run("if thing.public:\n    if user.staff:\n        return True", 0, 1, [(0, True), (1, False)], -1)

    def test_a_list_of_what_lacks_is_empty(self):
        self.check_run("for m in thing.team.members:\n    return True\nreturn False", 0, 0, [(0, 0), (2, False)], 2)

    def test_rows_around(self):
        text = "for t in thing.teams:\n    for m in t.members:\n        for n in m.notes:\n            if n.public:\n" \
               "                return False\nreturn True"
        rows = {
            "org": [("a", True)], "person": [(True, 0, "a")], "team": [(0, 1), (0, 2)],
            "member": [(0, "x"), (None, "x"), (1, "y"), (1, "z")],
            "note": [(0, None, 1, False), (3, None, 1, False), (3, 0, 1, True)],
        }
        store = Store(deep(), rows)
        check = Check(deep(), "org", text)
        done = run(check, store, 0, 0)
        self.assertEqual((done.opens, done.line), (False, 4))
        self.assertEqual(done.around, (("team", 1), ("member", 3), ("note", 2)))
        self.assertEqual(done.lines, (0, 1, 2, 3, 1, 2, 2, 3, 3, 4))
        self.assertEqual(list(steps(check, store, 0, 0)), [
            (0, 2), (1, 1), (2, 1), (3, False), (1, 2), (2, 0), (2, 2), (3, False), (3, True), (4, False)])

    def test_random_checks(self):
        lengths = set()
        for chance in chances(500):
            schema = some_schema(chance)
            uses = {"used": some_spelled(chance, schema, chance.choice(["question", "check"]), 3)}
            made = some_spelled(chance, schema, "check", chance.choice([6, 12, 20]), uses)
            store = Store(schema, some_rows(chance, tables_of(schema)))
            for thing, user in pairs_of(store, made.table)[:6]:
                follower = Follower(made, store, thing, user)
                told = list(steps(made.right, store, thing, user))
                self.assertEqual(told, follower.told, made.text)
                for (_, value), (_, other) in zip(told, follower.told):
                    self.assertIs(type(value), type(other))
                done = run(made.right, store, thing, user)
                self.assertEqual((done.opens, done.line, done.around), follower.ended)
                self.assertEqual(done.lines, tuple(line for line, _ in told))
                self.assertIs(done.opens, made.right.admits(store, thing, user))
                lengths.add(len(told))
        self.assertGreater(len(lengths), 9)

    def test_places_that_are_none(self):
        schema = example()
        store = Store(schema, example_rows())
        check = Check(schema, "doc", "return True")
        other = Store(Schema("team", EXAMPLE_TABLES), example_rows())
        for wrong in (2, -1, 10 ** 39, *NO_NAMES[:3], "0", [0], (0,)):
            for asked in (lambda *row: list(steps(check, *row)), lambda *row: run(check, *row)):
                with self.assertRaises(Mismatch) as caught:
                    asked(other, wrong, wrong)
                self.assertEqual(caught.exception.at, -1)
                with self.assertRaises(NoRow) as caught:
                    asked(store, wrong, wrong)
                self.assertEqual((caught.exception.table, caught.exception.at), ("doc", wrong))
        with self.assertRaises(NoRow) as caught:
            run(check, store, 0, 3)
        self.assertEqual((caught.exception.table, caught.exception.at), ("person", 3))
        # Nothing is raised before the steps are asked for.
        waiting = steps(check, store, 0, 3)
        with self.assertRaises(NoRow):
            list(waiting)
        self.assertEqual(store.add("person", (True, None)), 3)
        self.assertEqual(list(steps(check, store, 0, 3)), [(0, True)])
        self.assertTrue(run(check, store, 0, 3).opens)

    def test_by_name(self):
        store = Store(example(), example_rows())
        check = Check(example(), "doc", "return thing.public")
        self.assertEqual(list(steps(check=check, store=store, thing=0, user=1)), [(0, True)])
        self.assertTrue(run(user=1, thing=0, store=store, check=check).opens)
        self.assertTrue(what_if(store=store, changes=[], right=check, thing=0, user=1))


class WhatIfTest(unittest.TestCase):
    def setUp(self):
        self.store = Store(example(), example_rows())
        self.right = Question(example(), "doc", "thing.public and thing.owner = user and user in thing.team.members.person")

    def raises(self, error, fields, *asked):
        before = self.store.copy()
        with self.assertRaises(error) as caught:
            what_if(self.store, *asked)
        self.assertEqual(tuple(vars(caught.exception).values()), fields)
        self.assertEqual(self.store, before)

    def test_changes_are_made_in_order(self):
        before = self.store.copy()
        listing = self.right(self.store, 0)
        changes = [("doc", 1, "public", True)]
        self.assertIs(what_if(self.store, changes, self.right, 1, 0), True)
        self.assertIs(what_if(self.store, changes + [("doc", 1, "owner", 1)], self.right, 1, 0), False)
        self.assertIs(what_if(self.store, changes + [("doc", 1, "owner", 1), ("doc", 1, "owner", 0)], self.right, 1, 0),
                      True)
        self.assertIs(what_if(self.store, changes + [("doc", 1, "public", False)], self.right, 1, 0), False)
        self.assertEqual(changes, [("doc", 1, "public", True)])
        self.assertEqual((self.store, listing.things), (before, ()))
        self.assertIs(self.right.admits(self.store, 1, 0), False)

    def test_errors_in_order(self):
        other = everything(deep(), "org")
        good = ("doc", 1, "public", True)
        self.raises(BadStore, ("doc", 1, "public"), [good, ("doc", 1, "public", 1), ("no", 0, "x", 0)], other, 9, 9)
        self.raises(NoName, ("no",), [good, ("no", 7, "public", 1)], other, 9, 9)
        self.raises(NoRow, ("doc", 7), [("doc", 7, "no", 1), good], other, 9, 9)
        self.raises(NoName, ("no",), [("doc", 1, "no", 1)], other, 9, 9)
        self.raises(BadStore, ("doc", 0, "owner"), [("doc", 0, "owner", 3)], other, 9, 9)
        self.raises(Mismatch, (-1,), [good], other, 9, 9)
        self.raises(NoRow, ("doc", 9), [good], self.right, 9, 9)
        self.raises(NoRow, ("doc", True), [good], self.right, True, 9)
        self.raises(NoRow, ("person", 9), [good], self.right, 1, 9)

    def test_as_on_a_changed_copy(self):
        for chance in chances(100):
            schema = some_schema(chance)
            made = some_spelled(chance, schema, chance.choice(["question", "check"]), 6)
            tables = tables_of(schema)
            store = Store(schema, some_rows(chance, tables))
            others = some_rows(chance, tables)
            changed = store.copy()
            changes = []
            for table, columns in tables:
                for at, row in enumerate(others[table][:len(store.rows(table))]):
                    for column, value in zip(columns, row):
                        if column[0] != "link" or value is None or value < len(store.rows(column[2])):
                            changes.append((table, at, column[1], value))
            chance.shuffle(changes)
            for change in changes:
                changed.change(*change)
            before = store.copy()
            for thing, user in pairs_of(store, made.table)[:6]:
                self.assertIs(what_if(store, changes, made.right, thing, user), made.right.admits(changed, thing, user))
            self.assertEqual(store, before)
