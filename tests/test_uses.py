"""Used rights: what they mean, what they count, and what does not fit."""

import unittest

from listandpage.checks import Check
from listandpage.errors import BadCheck, BadQuestion
from listandpage.questions import Question
from listandpage.rights import all_of, everything, nothing
from listandpage.schemas import Schema
from listandpage.stores import Store
from tests.meanings import pairs_of, some_spelled
from tests.samples import chances, deep, example, example_rows, some_rows, some_schema, tables_of

YES, NO, NONE = True, False, None


def mates(schema=None):
    """A question about persons: unknown where a team lacks."""
    return Question(schema or example(), "person", "thing.team = user.team")


def small_rows(chance):
    """Rows of the deep tables, of which many are linked."""
    return {
        "org": [("a", True), ("b", False)],
        "person": [(True, 0, "a"), (False, None, None)],
        "team": [(chance.randrange(2), chance.choice([3, 4, 5])) for _ in range(3)],
        "member": [(chance.choice([None, 0, 1, 2]), "x") for _ in range(4)],
        "note": [(chance.randrange(4), chance.choice([None, 0, 1]), chance.choice([3, 4]), True) for _ in range(5)],
    }


class UseTest(unittest.TestCase):
    def values(self, text, uses, table="doc"):
        store = Store(example(), example_rows())
        question = Question(example(), table, text, uses=uses)
        return [question.value(store, thing, user) for thing, user in pairs_of(store, table)]

    def test_a_question_that_is_unknown_does_not_admit(self):
        # The owner of doc 0 has no team; that of doc 1 is the user 0, of team 2.
        self.assertEqual(self.values("mate(thing.owner)", {"mate": mates()}), [NO, NO, NO, YES, NO, NO])
        self.assertEqual(self.values("not mate(thing.owner)", {"mate": mates()}), [YES, YES, YES, NO, YES, YES])

    def test_a_path_that_lacks_is_unknown_in_a_question(self):
        all_teams = everything(example(), "team")
        no_teams = nothing(example(), "team")
        self.assertEqual(self.values("t(thing.team)", {"t": all_teams}), [NONE] * 3 + [YES] * 3)
        self.assertEqual(self.values("not t(thing.team)", {"t": all_teams}), [NONE] * 3 + [NO] * 3)
        self.assertEqual(self.values("t(thing.team)", {"t": no_teams}), [NONE] * 3 + [NO] * 3)
        self.assertEqual(self.values("t(thing.team) or true", {"t": no_teams}), [YES] * 6)

    def test_a_path_that_lacks_is_false_in_a_check(self):
        store = Store(example(), example_rows())
        for text, expected in (("return t(thing.team)", [NO, YES]), ("return not t(thing.team)", [YES, NO])):
            check = Check(example(), "doc", text, uses={"t": everything(example(), "team")})
            self.assertEqual([check.admits(store, thing, 0) for thing in range(2)], expected)

    def test_a_right_that_uses_a_right(self):
        one = Question(example(), "person", "mate(thing) and thing.staff", uses={"mate": mates()})
        two = Check(example(), "doc", "x = thing.owner\nreturn one(x)", uses={"one": one})
        self.assertEqual(self.values("two(thing)", {"two": two}), [NO, NO, NO, YES, NO, NO])
        self.assertEqual(two.weight(), 1 + 1 + (1 + 3 + 2))

    def test_used_in_walks(self):
        lead = Question(example(), "member", "thing.role = 'lead' and user.staff")
        text = "some thing.team.members as m (lead(m))"
        self.assertEqual(self.values(text, {"lead": lead}), [NO, NO, NO, YES, NO, NO])
        walking = Question(example(), "team", "some thing.members as m (m.person = user)")
        self.assertEqual(self.values("w(thing.team) or w(user.team)", {"w": walking}),
                         [YES, NONE, NONE, YES, YES, NO])

    def test_walks_of_a_used_right_within_walks(self):
        noted = Question(deep(), "member", "some thing.notes as n (n.by = user and n.stars > 3)")
        rated = Check(deep(), "team", "for m in thing.members:\n    if noted(m) and thing.size > 4:\n        return True",
                      uses={"noted": noted})
        pairs = [
            ("some thing.teams as t (some t.members as m (noted(m)))",
             "some thing.teams as t (some t.members as m (some m.notes as n (n.by = user and n.stars > 3)))"),
            ("some thing.teams as t (not rated(t) and t.size > 3)",
             "some thing.teams as t (t.size > 3 and (t.size <= 4 or no t.members as m ("
             "some m.notes as n (n.by = user and n.stars > 3))))"),
        ]
        admitted = []
        for used, written in pairs:
            one = Question(deep(), "org", used, uses={"noted": noted, "rated": rated})
            two = Question(deep(), "org", written)
            check = Check(deep(), "org", "return w(thing)", uses={"w": one})
            for chance in chances(60):
                store = Store(deep(), small_rows(chance))
                for pair in pairs_of(store, "org"):
                    admitted.append(two.admits(store, *pair))
                    self.assertIs(one.admits(store, *pair), admitted[-1], used)
                    self.assertIs(check.admits(store, *pair), admitted[-1], used)
        self.assertGreater(min(admitted.count(True), admitted.count(False)), 30)

    def test_names_may_stand_for_other_things_too(self):
        text = "some thing.team.members as mate (mate.person = user) or mate(thing.owner) and thing.team = thing.team"
        self.assertEqual(len(self.values(text, {"mate": mates()})), 6)
        text = "team(thing.team) or members(thing.team)"
        uses = {"team": everything(example(), "team"), "members": nothing(example(), "team")}
        self.assertEqual(self.values(text, uses), [NONE] * 3 + [YES] * 3)

    def test_the_dict_may_be_changed_afterwards(self):
        uses = {"a": everything(example(), "doc")}
        question = Question(example(), "doc", "a(thing)", uses=uses)
        check = Check(example(), "doc", "return a(thing)", uses=uses)
        uses["a"] = nothing(example(), "doc")
        store = Store(example(), example_rows())
        self.assertEqual((question.admits(store, 0, 0), check.admits(store, 0, 0)), (True, True))
        uses.clear()
        self.assertEqual((question.admits(store, 0, 0), check.admits(store, 0, 0)), (True, True))
        self.assertEqual(uses, {})

    def test_a_right_that_is_passed_but_not_used(self):
        uses = {"a": everything(Schema("a", [("a", [])]), "a")}
        self.assertEqual(Question(example(), "doc", "true", uses=uses).weight(), 1)


class CountTest(unittest.TestCase):
    def test_weights_and_walks(self):
        walking = Question(example(), "team", "thing.code lacks or some thing.members as m (m.role = 'a')")
        self.assertEqual((walking.weight(), walking.walks()), (7, ["member"]))
        made = all_of(walking, walking)
        self.assertEqual((made.weight(), made.walks()), (15, ["member", "member"]))
        for text, weight, walks in (
            ("w(thing.team)", 2 + 7, ["member"]),
            ("user in user.team.members.person or w(thing.team) and w(user.team)", 8 + 9 + 9, ["member"] * 4),
            ("made(thing.team)", 2 + 15, ["member"] * 2),
        ):
            question = Question(example(), "doc", text, uses={"w": walking, "made": made})
            self.assertEqual((question.weight(), question.walks()), (weight, walks), text)

    def test_within_a_walk(self):
        flat = Question(deep(), "note", "thing.public and thing.stars > 3")
        walking = Question(deep(), "member", "thing.role = 'a' and some thing.notes as n (n.public)")
        made = ~walking
        self.assertEqual((flat.weight(), walking.weight(), made.weight()), (4, 2 + 1 + 4, 8))
        for text, weight, walks in (
            ("some thing.notes as n (flat(n))", 1 + 2 * (1 + 4), ["note"]),
            ("walk(thing)", 1 + 7, ["note"]),
            ("some thing.team.members as m (walk(m))", 2 + 2 * (1 + 2 + 1) + 4, ["member", "note"]),
            # What counts twice already counts no more; what a made right adds counts twice.
            ("some thing.team.members as m (made(m) and walk(m))", 2 + 2 * (1 + 1 + 3) + 4 + 2 * (1 + 3) + 4,
             ["member", "note", "note"]),
        ):
            uses = {"flat": flat, "walk": walking, "made": made}
            question = Question(deep(), "member", text, uses=uses)
            self.assertEqual((question.weight(), question.walks()), (weight, walks), text)

    def test_random_uses(self):
        for chance in chances(400):
            schema = some_schema(chance)
            uses = {}
            for name in ("a", "has", "verylongname"):
                made = some_spelled(chance, schema, chance.choice(["question", "check"]), chance.randint(1, 3), uses)
                uses = {**uses, name: made}
            right = made.right
            self.assertEqual((right.weight(), right.walks()), (made.weight, made.walked), made.text)
            self.assertEqual((str(right), right.tests()), (made.spelling, made.tests), made.text)
            store = Store(schema, some_rows(chance, tables_of(schema), 3))
            for thing, user in pairs_of(store, made.table):
                told = made.value(store, thing, user)
                self.assertIs(right.admits(store, thing, user), told is True, made.text)
                if made.language == "question":
                    self.assertIs(right.value(store, thing, user), told, made.text)


class MisfitTest(unittest.TestCase):
    def fault(self, schema, table, text, uses):
        """The position in a question, and behind a `return` the position in a check."""
        with self.assertRaises(BadQuestion) as caught:
            Question(schema, table, text, uses=uses)
        with self.assertRaises(BadCheck) as other:
            Check(schema, table, "return " + text, uses=uses)
        self.assertEqual((other.exception.line, other.exception.at), (0, caught.exception.at + 7))
        return caught.exception.at

    def test_names(self):
        for text, at in (("a(thing.team)", 0), ("ok(thing.team) and a(thing.team)", 19), ("a(thing.foo)", 0),
                         ("ok(thing.foo)", 9), ("ok(foo)", 3), ("ok(thing.team.foo)", 14), ("ok(thing.level.foo)", 15)):
            self.assertEqual(self.fault(example(), "doc", text, {"ok": everything(example(), "team")}), at, text)
        self.assertEqual(self.fault(example(), "doc", "ok(thing)", None), 0)
        self.assertEqual(self.fault(example(), "doc", "ok(thing)", {}), 0)

    def test_paths(self):
        teams = everything(example(), "team")
        for text in ("not ok(thing)", "not ok(thing.owner)", "not ok(thing.level)", "not ok(user.team.code)",
                     "not ok(thing.team.members)", "not ok(thing.team.members.team)"):
            self.assertEqual(self.fault(example(), "doc", text, {"ok": teams}), 4, text)

    def test_other_schemas(self):
        other = Schema("team", [(name, list(example().columns(name))) for name in example().tables])
        again = Schema.read(str(example()))
        self.assertEqual(self.fault(example(), "doc", "ok(thing.team)", {"ok": everything(other, "team")}), 0)
        question = Question(example(), "doc", "ok(thing.team)", uses={"ok": everything(again, "team")})
        self.assertEqual(question.weight(), 3)

    def test_walks_within_a_walk(self):
        teams = Question(deep(), "org", "some thing.teams as t (true)")
        notes = Question(deep(), "member", "some thing.notes as n (true)")
        two = Question(deep(), "member", "notes(thing) and teams(thing.team.org)", uses={"notes": notes, "teams": teams})
        uses = {"teams": teams, "notes": notes, "two": two}
        text = "some thing.teams as t (some t.members as m (notes(m)))"
        self.assertEqual(Question(deep(), "org", text, uses=uses).walks(), ["team", "member", "note"])
        for text, name in (("some thing.teams as t (teams(t.org))", "teams("),
                           ("some thing.teams as t (some t.members as m (not two(m)))", "two("),
                           ("some thing.teams as t (some t.members as m (notes(m) and teams(t.org)))", "teams(")):
            with self.assertRaises(BadQuestion) as caught:
                Question(deep(), "org", text, uses=uses)
            self.assertEqual(caught.exception.at, text.index(name), text)
        with self.assertRaises(BadCheck) as found:
            Check(deep(), "org", "for t in thing.teams:\n    if teams(t.org):\n        return foo", uses=uses)
        self.assertEqual((found.exception.line, found.exception.at), (1, 7))
