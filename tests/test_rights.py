"""What all rights have in common: asking them, their lists, what is made from them."""

import unittest

from listandpage.checks import Check
from listandpage.errors import ListandpageError, Mismatch, NoName, NoRow
from listandpage.questions import Question
from listandpage.rights import Listing, Right, all_of, any_of, everything, nothing
from listandpage.schemas import Schema
from listandpage.stores import Store
from tests.meanings import pairs_of, some_spelled
from tests.samples import NO_NAMES, chances, deep, example, example_rows, loose, some_rows, some_schema, tables_of

# Values that are no rows of a table with three rows.
NO_ROWS = (None, True, False, -1, 3, 60, 10 ** 39, "0", "", [], [0], (), (0,), ("doc", 0), {}, {0: 0})


def some_rights(chance, schema, table, many):
    """Random rights of one table."""
    languages = [chance.choice(["question", "check"]) for _ in range(many)]
    return [some_spelled(chance, schema, language, chance.randint(1, 3), table=table).right for language in languages]


class AskingTest(unittest.TestCase):
    def setUp(self):
        self.store = Store(example(), example_rows())
        self.store.add("doc", (True, 0, None, 2))
        question = Question(example(), "doc", "thing.owner = user")
        check = Check(example(), "doc", "return thing.owner == user")
        self.rights = [question, check, question | check, ~question, any_of(check), everything(example(), "doc")]

    def test_stores_of_other_schemas(self):
        again = Schema.read(str(example()))
        for right in self.rights:
            for schema in (deep(), example().filled(), Schema("doc", tables_of(example()))):
                other = Store(schema)
                for ask in (lambda: right.admits(other, 0, 0), lambda: right(other, 0),
                            lambda: right.admits(other, "x", None), lambda: right(other, "x")):
                    with self.assertRaises(Mismatch) as caught:
                        ask()
                    self.assertEqual(caught.exception.at, -1)
                    self.assertIsInstance(caught.exception, ListandpageError)
            same = Store(again, {table: self.store.rows(table) for table in example().tables})
            for thing, user in pairs_of(self.store, "doc"):
                self.assertIs(right.admits(same, thing, user), right.admits(self.store, thing, user))

    def test_no_rows(self):
        for right in self.rights:
            asks = [right.admits] + ([right.value] if isinstance(right, Question) else [])
            before = [right.admits(self.store, *pair) for pair in pairs_of(self.store, "doc")]
            for wrong in NO_ROWS + (right, self.store, example()):
                for ask in asks:
                    for user in (0, wrong):
                        with self.assertRaises(NoRow) as caught:
                            ask(self.store, wrong, user)
                        self.assertEqual(caught.exception.table, "doc")
                        self.assertIs(caught.exception.at, wrong)
                    with self.assertRaises(NoRow) as caught:
                        ask(self.store, 0, wrong)
                    self.assertEqual(caught.exception.table, "person")
                    self.assertIs(caught.exception.at, wrong)
                with self.assertRaises(NoRow) as caught:
                    right(self.store, wrong)
                self.assertEqual(caught.exception.table, "person")
                self.assertIs(caught.exception.at, wrong)
            self.assertEqual([right.admits(self.store, *pair) for pair in pairs_of(self.store, "doc")], before)

    def test_value_of_a_question(self):
        question = self.rights[0]
        with self.assertRaises(Mismatch) as caught:
            question.value(Store(deep()), None, None)
        self.assertEqual(caught.exception.at, -1)

    def test_answers_do_not_depend_on_earlier_ones(self):
        first = [[right.admits(self.store, *pair) for pair in pairs_of(self.store, "doc")] for right in self.rights]
        lists = [[right(self.store, user).things for user in range(3)] for right in self.rights]
        for _ in range(2):
            for at in (3, 0, 5, 1, 4, 2):
                right = self.rights[at]
                self.assertEqual([right(self.store, user).things for user in range(3)], lists[at])
                self.assertEqual([right.admits(self.store, *pair) for pair in pairs_of(self.store, "doc")], first[at])

    def test_the_store_stays(self):
        before = self.store.copy()
        for right in self.rights:
            right(self.store, 0)
            right.admits(self.store, 0, 0)
        self.assertEqual(self.store, before)


class ListingTest(unittest.TestCase):
    def test_things(self):
        store = Store(example(), example_rows())
        store.add("doc", (True, 0, None, 1))
        listing = Question(example(), "doc", "thing.owner = user")(store, 1)
        self.assertIsInstance(listing, Listing)
        self.assertEqual(listing.things, (0, 2))
        self.assertEqual(len(listing), 2)
        self.assertEqual(list(listing), [0, 2])
        self.assertEqual([thing for thing in listing], [0, 2])
        for thing in (0, 2):
            self.assertIs(thing in listing, True)
        for thing in (1, -1, 3, True, False, None, "0", "", [0], (0,), (0, 2), [], 10 ** 39, listing, store):
            self.assertIs(thing in listing, False)

    def test_it_stays_when_the_store_changes(self):
        store = Store(example(), example_rows())
        right = Question(example(), "doc", "thing.public")
        listing = right(store, 0)
        store.change("doc", 1, "public", True)
        store.change("doc", 0, "public", False)
        store.add("doc", (True, 0, None, 1))
        self.assertEqual((listing.things, list(listing), len(listing)), ((0,), [0], 1))
        self.assertEqual((0 in listing, 1 in listing), (True, False))
        self.assertEqual(right(store, 0).things, (1, 2))

    def test_an_empty_one(self):
        store = Store(example(), {"person": [(True, None)]})
        listing = Question(example(), "doc", "true")(store, 0)
        self.assertEqual((listing.things, len(listing), list(listing), 0 in listing), ((), 0, [], False))


class MadeTest(unittest.TestCase):
    def test_unknown_questions(self):
        store = Store(example(), example_rows())
        question = Question(example(), "doc", "thing.team = user.team")
        self.assertIsNone(question.value(store, 0, 0))
        self.assertTrue((~question).admits(store, 0, 0))
        self.assertFalse(Question(example(), "doc", "not thing.team = user.team").admits(store, 0, 0))
        self.assertFalse((~~question).admits(store, 0, 0))
        self.assertTrue((everything(example(), "doc") - question).admits(store, 0, 0))
        self.assertTrue((question | ~question).admits(store, 0, 0))

    def test_what_they_admit_and_count(self):
        for chance in chances(200):
            schema = some_schema(chance)
            table = chance.choice(schema.tables)
            one, two, three, four = some_rights(chance, schema, table, 4)
            told = [(right.weight(), right.walks(), right.schema, right.table) for right in (one, two, three, four)]
            store = Store(schema, some_rows(chance, tables_of(schema), 4))
            cases = [
                (one & two, [one, two], lambda a, b: a and b),
                (one | two, [one, two], lambda a, b: a or b),
                (one - two, [one, two], lambda a, b: a and not b),
                (~one, [one], lambda a: not a),
                (any_of(one), [one], lambda a: a),
                (all_of(one), [one], lambda a: a),
                (any_of(one, two, three), [one, two, three], lambda *told: any(told)),
                (all_of(one, two, three), [one, two, three], lambda *told: all(told)),
                (any_of(four, three, two, one), [four, three, two, one], lambda *told: any(told)),
                (all_of(one, two, two, one), [one, two, two, one], lambda *told: all(told)),
                (~(one | two) & three, [one, two, three], lambda a, b, c: not (a or b) and c),
            ]
            for at, (made, parts, expected) in enumerate(cases):
                self.assertEqual(made.weight(), sum(part.weight() for part in parts) + (3 if at == 10 else 1))
                self.assertEqual(made.walks(), [table for part in parts for table in part.walks()])
                self.assertEqual((made.schema, made.table), (schema, table))
                self.assertIsInstance(made, Right)
                self.assertNotIsInstance(made, (Question, Check))
                for pair in pairs_of(store, table):
                    found = [part.admits(store, *pair) for part in parts]
                    self.assertIs(made.admits(store, *pair), expected(*found))
                for user in range(len(store.rows(schema.user))):
                    things = [thing for thing in range(len(store.rows(table)))
                              if expected(*[thing in part(store, user) for part in parts])]
                    self.assertEqual(list(made(store, user)), things)
            after = [(right.weight(), right.walks(), right.schema, right.table) for right in (one, two, three, four)]
            self.assertEqual(after, told)

    def test_mismatches(self):
        doc = Question(example(), "doc", "true")
        heavy = Question(example(), "doc", " or ".join(["true"] * 100))
        others = [Question(example(), "team", "true"), Question(example().filled(), "doc", "true"),
                  Check(Schema("doc", tables_of(example())), "doc", "return True"),
                  Question(example(), "team", " or ".join(["true"] * 100))]
        for other in others:
            for right in (doc, heavy):
                for made in (lambda: right & other, lambda: right | other, lambda: right - other,
                             lambda: any_of(right, other), lambda: all_of(right, other)):
                    self.mismatch(made, 1)
            self.mismatch(lambda: any_of(doc, doc, other, other), 2)
            self.mismatch(lambda: all_of(doc, doc, doc, other), 3)
            self.mismatch(lambda: any_of(heavy, heavy, other), 2)
        again = Question(Schema.read(str(example())), "doc", "true")
        self.assertEqual((doc & again).weight(), 3)

    def mismatch(self, made, at):
        with self.assertRaises(Mismatch) as caught:
            made()
        self.assertEqual(caught.exception.at, at)

    def test_they_can_be_used(self):
        store = Store(example(), example_rows())
        staff = Question(example(), "person", "thing.staff")
        mate = Check(example(), "person", "return thing.team is not None and thing.team == user.team")
        for made in (staff & mate, staff | mate, staff - mate, ~mate, any_of(staff, mate), all_of(staff),
                     everything(example(), "person"), nothing(example(), "person")):
            question = Question(example(), "doc", "ok(thing.owner)", uses={"ok": made})
            check = Check(example(), "doc", "x = thing.owner\nreturn not ok(x)", uses={"ok": made})
            self.assertEqual((question.weight(), check.weight()), (2 + made.weight(), 2 + made.weight()))
            for thing, user in pairs_of(store, "doc"):
                owner = store.value("doc", thing, "owner")
                self.assertIs(question.value(store, thing, user), made.admits(store, owner, user))
                self.assertIs(check.admits(store, thing, user), not made.admits(store, owner, user))


class AllWaysTest(unittest.TestCase):
    def test_all_ways_of_asking_agree(self):
        for chance in chances(200):
            schema = some_schema(chance)
            table = chance.choice(schema.tables)
            made = some_spelled(chance, schema, chance.choice(["question", "check"]), chance.randint(1, 4), table=table)
            uses = {"it": made.right}
            ways = [made.right, Question(schema, table, "it(thing)", uses=uses),
                    Check(schema, table, "return it(thing)", uses=uses),
                    Check(schema, table, "x = thing\nif not it(x):\n    return False\nreturn True", uses=uses),
                    any_of(made.right), made.right & made.right, ~~made.right]
            store = Store(schema, some_rows(chance, tables_of(schema), 3))
            for user in range(len(store.rows(schema.user))):
                things = range(len(store.rows(table)))
                admitted = [thing for thing in things if made.value(store, thing, user) is True]
                for way in ways:
                    self.assertEqual(list(way(store, user)), admitted, made.text)
                    self.assertEqual([thing for thing in things if way.admits(store, thing, user)], admitted, made.text)


class ConstantTest(unittest.TestCase):
    def test_nothing_and_everything(self):
        store = Store(example(), example_rows())
        for made, truth in ((nothing, False), (everything, True)):
            for table in example().tables:
                right = made(example(), table)
                self.assertEqual((right.weight(), right.walks(), right.table), (1, [], table))
                self.assertEqual(right.schema, example())
                self.assertNotIsInstance(right, (Question, Check))
                for pair in pairs_of(store, table):
                    self.assertIs(right.admits(store, *pair), truth)

    def test_no_tables(self):
        for made in (nothing, everything):
            for name in NO_NAMES + ("nothing",):
                with self.assertRaises(NoName) as caught:
                    made(example(), name)
                self.assertIs(caught.exception.name, name)


class FilledTest(unittest.TestCase):
    def check_filled(self, right):
        filled = right.filled()
        self.assertEqual(filled.schema, right.schema.filled())
        self.assertEqual((filled.table, filled.weight()), (right.table, right.weight()))
        self.assertEqual(filled.walks(), right.walks())
        self.assertIsInstance(filled, Right)
        self.assertNotIsInstance(filled, (Question, Check))
        return filled

    def test_random_rights(self):
        for chance in chances(200):
            schema = some_schema(chance)
            table = chance.choice(schema.tables)
            uses = {"a": some_spelled(chance, schema, "question", 2), "b": some_spelled(chance, schema, "check", 4)}
            one = some_spelled(chance, schema, chance.choice(["question", "check"]), 3, uses, table).right
            two = some_rights(chance, schema, table, 1)[0]
            if one.weight() + two.weight() > 40:
                continue
            rows = some_rows(chance, tables_of(schema.filled()), 4)
            full, lacking = Store(schema.filled(), rows), Store(schema, rows)
            for right in (one, two, one & two, ~one, any_of(one, two, one), one - two, ~(~two | one)):
                filled = self.check_filled(right)
                for pair in pairs_of(full, table):
                    self.assertIs(filled.admits(full, *pair), right.admits(lacking, *pair))

    def test_tests_of_what_lacks_stay(self):
        question = Question(loose(), "b", "thing.x lacks or thing.w lacks")
        self.assertFalse(question.filled() == question)
        store = Store(loose().filled(), {"a": [("w", True)], "b": [(0, 0, "w", 1)]})
        self.assertIs(question.filled().admits(store, 0, 0), False)
        with self.assertRaises(Mismatch):
            question.filled().admits(Store(loose(), {"a": [("w", True)], "b": [(0, 0, "w", 1)]}), 0, 0)
        self.assertTrue(question.filled() == nothing(loose().filled(), "b"))
        self.assertFalse(question == nothing(loose(), "b"))

    def test_filled_twice(self):
        question = Question(loose(), "b", "thing.x = user")
        self.assertEqual(question.filled().filled(), question.filled())
