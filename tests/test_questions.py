"""Questions: their values, their lists, and what they tell."""

import unittest

from listandpage.questions import Question
from listandpage.stores import Store
from tests.meanings import pairs_of, some_spelled
from tests.samples import chances, deep, example, example_rows, some_rows, some_schema, tables_of

# Behind each text its values for the docs 0 and 1 and, of each, the persons 0, 1 and 2.
YES, NO, NONE = True, False, None
ONE_TEST = [
    ("thing.public", [YES, YES, YES, NO, NO, NO]),
    ("not thing.public", [NO, NO, NO, YES, YES, YES]),
    ("user.staff", [YES, NO, NO, YES, NO, NO]),
    ("thing.owner.staff", [NO, NO, NO, YES, YES, YES]),
    ("thing.level = 7", [YES, YES, YES, NO, NO, NO]),
    ("thing.level != 7", [NO, NO, NO, YES, YES, YES]),
    ("thing.level < 7", [NO, NO, NO, YES, YES, YES]),
    ("thing.level <= 7", [YES] * 6),
    ("thing.level > 7", [NO] * 6),
    ("thing.level >= 7", [YES, YES, YES, NO, NO, NO]),
    ("thing.level >= 999999999999", [NO] * 6),
    ("thing.level < 0", [NO, NO, NO, YES, YES, YES]),
    ("thing.owner = user", [NO, YES, NO, YES, NO, NO]),
    ("user != thing.owner", [YES, NO, YES, NO, YES, YES]),
    ("not not user = thing.owner", [NO, YES, NO, YES, NO, NO]),
    ("thing = thing", [YES] * 6),
    ("thing.team lacks", [YES, YES, YES, NO, NO, NO]),
    ("not thing.team lacks", [NO, NO, NO, YES, YES, YES]),
    ("thing lacks", [NO] * 6),
    ("thing.level lacks", [NO] * 6),
    ("user.team.code lacks", [NO, YES, NO, NO, YES, NO]),
    ("thing.owner.team.code lacks", [YES, YES, YES, NO, NO, NO]),
    ("thing.team = user.team", [NONE, NONE, NONE, YES, NONE, NO]),
    ("thing.team != user.team", [NONE, NONE, NONE, NO, NONE, YES]),
    ("not thing.team = user.team", [NONE, NONE, NONE, NO, NONE, YES]),
    ("thing.team = thing.team", [NONE, NONE, NONE, YES, YES, YES]),
    ("user.team.code = 'blue'", [YES, NONE, NO, YES, NONE, NO]),
    ("user.team.code != 'blue'", [NO, NONE, YES, NO, NONE, YES]),
    ("not user.team.code in ( 'blue' , 'red' )", [NO, NONE, NO, NO, NONE, NO]),
    ("user.team.code not in ( 'blue' , 'green' )", [NO, NONE, YES, NO, NONE, YES]),
    ("user.team.code = thing.owner.team.code", [NONE, NONE, NONE, YES, NONE, NO]),
    ("true", [YES] * 6),
    ("not true", [NO] * 6),
    ("( false )", [NO] * 6),
]
# Texts and their values in a store of the deep schema, for the person 0 as thing and each user.
JOINED = [
    ("thing.staff and thing.org.open", [NONE]),
    ("thing.staff or thing.org.open", [YES]),
    ("not thing.staff and thing.org.open", [NO]),
    ("not thing.staff or thing.org.open", [NONE]),
    ("not (thing.staff and thing.org.open)", [NONE]),
    ("not (thing.staff or thing.org.open)", [NO]),
    ("thing.org.open and thing.nick lacks and false", [NO]),
    ("thing.org.open or thing.nick = 'a' or true", [YES]),
    ("true or true and false", [YES]),
    ("(true or true) and false", [NO]),
    ("not false and false", [NO]),
]


class OneTestTest(unittest.TestCase):
    def test_values(self):
        store = Store(example(), example_rows())
        for text, expected in ONE_TEST:
            question = Question(example(), "doc", text)
            found = [question.value(store, thing, user) for thing, user in pairs_of(store, "doc")]
            self.assertEqual(found, expected, text)
            for told in found:
                self.assertTrue(told is None or isinstance(told, bool))

    def test_admits_and_list_go_by_the_value(self):
        store = Store(example(), example_rows())
        for text, expected in ONE_TEST:
            question = Question(example(), "doc", text)
            found = [question.admits(store, thing, user) for thing, user in pairs_of(store, "doc")]
            self.assertEqual(found, [told is True for told in expected], text)
            for user in range(3):
                things = tuple(thing for thing in range(2) if expected[3 * thing + user] is True)
                self.assertEqual(question(store, user).things, things, text)

    def test_a_not_in_front_exchanges_true_and_false(self):
        store = Store(example(), example_rows())
        for text, expected in ONE_TEST:
            for front in ("not ", "not(", "  not  (  "):
                question = Question(example(), "doc", front + text + ")" * front.count("("))
                found = [question.value(store, thing, user) for thing, user in pairs_of(store, "doc")]
                self.assertEqual(found, [told if told is None else not told for told in expected], text)


class InListTest(unittest.TestCase):
    """Teams 0 (members 0 and 1) and 1 (none); docs that are in them, in none; persons 0 and 1."""

    def setUp(self):
        self.store = Store(example(), {
            "team": [("red",), (None,)],
            "person": [(True, 0), (False, 1), (False, None)],
            "doc": [(True, 1, 0, 0), (True, 1, 1, 1), (True, 1, None, 2)],
            "member": [(0, 0, "red"), (0, None, "x")],
        })

    def values(self, text):
        question = Question(example(), "doc", text)
        return [[question.value(self.store, thing, user) for user in range(3)] for thing in range(3)]

    def test_rows(self):
        # In the list of team 0 one end lacks; that of team 1 is empty, and doc 2 has none.
        self.assertEqual(self.values("user in thing.team.members.person"),
                         [[YES, NONE, NONE], [NO, NO, NO], [NO, NO, NO]])
        self.assertEqual(self.values("user not in thing.team.members.person"),
                         [[NO, NONE, NONE], [YES, YES, YES], [YES, YES, YES]])
        self.assertEqual(self.values("not user in thing.team.members.person"),
                         [[NO, NONE, NONE], [YES, YES, YES], [YES, YES, YES]])

    def test_a_left_path_that_lacks(self):
        self.assertEqual(self.values("thing.team in thing.owner.places.team"),
                         [[YES] * 3, [NO] * 3, [NO] * 3])
        self.assertEqual(self.values("user.team in thing.team.members.team"),
                         [[YES, NO, NONE], [NO, NO, NO], [NO, NO, NO]])

    def test_words(self):
        self.assertEqual(self.values("user.team.code in thing.team.members.role"),
                         [[YES, NONE, NONE], [NO, NO, NO], [NO, NO, NO]])
        self.assertEqual(self.values("thing.team.code in user.team.members.role"),
                         [[YES, NO, NO], [NONE, NO, NO], [NONE, NO, NO]])

    def test_the_rows_of_the_list_themselves(self):
        question = Question(example(), "member", "thing in user.team.members")
        found = [question.value(self.store, 0, user) for user in range(3)]
        self.assertEqual(found, [YES, NO, NO])

    def test_joined(self):
        self.assertEqual(self.values("user in thing.team.members.person and user.staff"),
                         [[YES, NO, NO], [NO, NO, NO], [NO, NO, NO]])
        self.assertEqual(self.values("user in thing.team.members.person or not user.staff"),
                         [[YES, YES, YES], [NO, YES, YES], [NO, YES, YES]])
        self.assertEqual(self.values("not (user in thing.team.members.person or user.staff)"),
                         [[NO, NONE, NONE], [NO, YES, YES], [NO, YES, YES]])


class JoinedTest(unittest.TestCase):
    def test_three_values(self):
        store = Store(deep(), {"person": [(True, None, None)]})
        for text, expected in JOINED:
            found = Question(deep(), "person", text).value(store, 0, 0)
            self.assertEqual([found], expected, text)
            for spelling in (f"({text})", f"not(not({text}))", f"(({text}))and true", f"false or({text})"):
                self.assertIs(Question(deep(), "person", spelling).value(store, 0, 0), expected[0], spelling)

    def test_walks_within_walks(self):
        store = Store(deep(), {
            "org": [("a", True), (None, False)],
            "person": [(True, 0, "a"), (False, None, None)],
            "team": [(0, 3), (0, 4), (1, 5)],
            "member": [(0, "x"), (1, None), (1, "y"), (None, "z")],
            "note": [(1, 0, 5, True), (2, 1, 5, False), (2, None, 2, True)],
        })
        texts = [
            ("some thing.teams as t (true)", [YES, YES]),
            ("no thing.teams as t (t.size > 4)", [YES, NO]),
            # The member 1 has no role: this is unknown for it, and does not count.
            ("some thing.teams as t (no t.members as m (m.role = 'x'))", [YES, YES]),
            ("no thing.teams as t (no t.members as m (m.role = 'x' or m.role = 'y'))", [YES, NO]),
            ("some thing.teams as t (some t.members as m (some m.notes as n (n.by = user)))", [YES, NO]),
            ("some thing.teams as t (some t.members as m (no m.notes as n (n.by = user)))", [YES, NO]),
            ("no thing.teams as t (some t.members as m (some m.notes as n (not n.by = user)))", [NO, YES]),
            ("some thing.teams as t (t.size = 3) and no thing.teams as s (s.size = 5)", [YES, NO]),
        ]
        for text, expected in texts:
            question = Question(deep(), "org", text)
            self.assertEqual([question.value(store, thing, 0) for thing in range(2)], expected, text)

    def test_some_and_no_are_never_unknown(self):
        store = Store(deep(), {"org": [("a", True)], "person": [(True, None, None)], "team": [(0, 3)]})
        for text, expected in (("some thing.teams as t (user.nick = 'a')", NO),
                               ("no thing.teams as t (user.nick = 'a')", YES),
                               ("not some thing.teams as t (user.nick = 'a')", YES),
                               ("some thing.teams as t (not user.nick = 'a')", NO)):
            self.assertIs(Question(deep(), "org", text).value(store, 0, 0), expected, text)


class RandomQuestionsTest(unittest.TestCase):
    """Random questions against a second spelling of what they mean and count."""

    def test_values_and_lists(self):
        seen = set()
        for chance in chances(500):
            schema = some_schema(chance)
            made = some_spelled(chance, schema, "question", chance.randint(1, 6))
            store = Store(schema, some_rows(chance, tables_of(schema), 4))
            for thing, user in pairs_of(store, made.table):
                told = made.value(store, thing, user)
                seen.add(told)
                self.assertIs(made.right.value(store, thing, user), told, made.text)
                self.assertIs(made.right.admits(store, thing, user), told is True, made.text)
            for user in range(len(store.rows(schema.user))):
                things = range(len(store.rows(made.table)))
                expected = [thing for thing in things if made.value(store, thing, user) is True]
                self.assertEqual(list(made.right(store, user)), expected)
        self.assertEqual(seen, {True, False, None})

    def test_what_they_tell(self):
        for chance in chances(500):
            schema = some_schema(chance)
            made = some_spelled(chance, schema, "question", chance.randint(1, 8))
            right = made.right
            self.assertEqual(right.text, made.text)
            self.assertEqual(str(right), made.spelling)
            self.assertEqual(right.tests(), made.tests)
            self.assertEqual(right.weight(), made.weight)
            self.assertEqual(right.walks(), made.walked)
            self.assertEqual((right.schema, right.table), (schema, made.table))
            again = Question(schema, made.table, made.spelling)
            self.assertEqual((str(again), again.tests()), (made.spelling, made.tests))
            self.assertEqual((again.weight(), again.walks()), (made.weight, made.walked))


class TellingTest(unittest.TestCase):
    def test_the_example(self):
        text = "thing.owner=user or some thing.team.members as m(m.role in('a','b'))"
        spelling = "thing.owner = user or some thing.team.members as m ( m.role in ( 'a' , 'b' ) )"
        wide = "  thing . owner  =  user or  some thing .team. members  as m ( m.role in (  'a'  , 'b' )  )  "
        for spelled in (text, spelling, wide):
            question = Question(example(), "doc", spelled)
            self.assertEqual(question.text, spelled)
            self.assertEqual(str(question), spelling)
            self.assertEqual(question.tests(), ["thing.owner = user", "m.role in ( 'a' , 'b' )"])
            self.assertEqual(question.weight(), 8)
            self.assertEqual(question.walks(), ["member"])
            self.assertEqual(question.schema, example())
            self.assertEqual(question.table, "doc")

    def test_weights(self):
        for text, weight, walks in (
            ("true", 1, []),
            ("thing = thing", 1, []),
            ("thing.owner = user or some thing.team.members as m (m.person = user)", 8, ["member"]),
            ("user in thing.team.members.person", 8, ["member", "member"]),
            ("user not in thing.team.members.person and true", 9, ["member", "member"]),
            ("some thing.team.members as m (true and false)", 6, ["member"]),
            ("not (not thing.team lacks)", 2, []),
            ("some thing.team.members as m (m.person.team.code = user.team.code)", 14, ["member"]),
        ):
            question = Question(example(), "doc", text)
            self.assertEqual((question.weight(), question.walks()), (weight, walks), text)

    def test_tests_stand_in_the_order_of_their_first_tokens(self):
        text = "(some thing.team.members as m (not m.role!='a')or user.staff)and thing.level<=3"
        expected = ["m.role != 'a'", "user.staff", "thing.level <= 3"]
        self.assertEqual(Question(example(), "doc", text).tests(), expected)

    def test_returned_lists_are_new(self):
        question = Question(example(), "doc", "user in thing.team.members.person")
        question.tests().append("x")
        question.walks().clear()
        self.assertEqual(question.tests(), ["user in thing.team.members.person"])
        self.assertEqual(question.walks(), ["member", "member"])
