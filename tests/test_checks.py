"""Checks: what they admit, and what they tell."""

import unittest

from listandpage.checks import Check
from listandpage.questions import Question
from listandpage.rights import everything
from listandpage.stores import Store
from tests.meanings import pairs_of, some_spelled
from tests.samples import chances, deep, example, example_rows, some_rows, some_schema, tables_of

YES, NO = True, False

# Behind each test of a `return` what it admits: docs 0 and 1 and, of each, the persons 0, 1 and 2.
ONE_LINE = [
    ("thing.public", [YES, YES, YES, NO, NO, NO]),
    ("not thing.public", [NO, NO, NO, YES, YES, YES]),
    ("thing.level == 7", [YES, YES, YES, NO, NO, NO]),
    ("thing.level != 7", [NO, NO, NO, YES, YES, YES]),
    ("thing.level < 7", [NO, NO, NO, YES, YES, YES]),
    ("thing.level >= 7", [YES, YES, YES, NO, NO, NO]),
    ("thing.level <= 6", [NO, NO, NO, YES, YES, YES]),
    ("thing.level > 6", [YES, YES, YES, NO, NO, NO]),
    ("thing.team is None", [YES, YES, YES, NO, NO, NO]),
    ("thing.team is not None", [NO, NO, NO, YES, YES, YES]),
    ("user.team.code is None", [NO, YES, NO, NO, YES, NO]),
    ("thing is None", [NO] * 6),
    # The teams: of the docs none and 2, of the persons 2, none and 0. None equals None.
    ("thing.team == user.team", [NO, YES, NO, YES, NO, NO]),
    ("thing.team != user.team", [YES, NO, YES, NO, YES, YES]),
    ("not thing.team == user.team", [YES, NO, YES, NO, YES, YES]),
    ("thing.team.code == user.team.code", [NO, YES, NO, YES, NO, NO]),
    ("user.team.code == 'blue'", [YES, NO, NO, YES, NO, NO]),
    ("user.team.code != 'blue'", [NO, YES, YES, NO, YES, YES]),
    ("user.team.code in ('blue', 'green')", [YES, NO, NO, YES, NO, NO]),
    ("user.team.code not in ('blue', 'green')", [NO, YES, YES, NO, YES, YES]),
    ("user == thing.owner", [NO, YES, NO, YES, NO, NO]),
    ("user != thing.owner", [YES, NO, YES, NO, YES, YES]),
    # The members of team 2 have the persons 0, 0 and 1.
    ("user in [m.person for m in thing.team.members]", [NO, NO, NO, YES, YES, NO]),
    ("user not in [m.person for m in thing.team.members]", [YES, YES, YES, NO, NO, YES]),
    ("thing.owner in [m.person for m in user.team.members]", [YES, NO, NO, YES, NO, NO]),
    ("thing.team.code in [m.role for m in user.team.members]", [NO] * 6),
    # The only member of team 0 has no person; user 1 has no team, so its list is empty.
    ("any(m.person is None for m in user.team.members)", [NO, NO, YES, NO, NO, YES]),
    ("all(m.person is None for m in user.team.members)", [NO, YES, YES, NO, YES, YES]),
    ("any(m.role == 'lead' and m.person == user for m in thing.team.members)", [NO, NO, NO, YES, NO, NO]),
    ("all(m.role != 'x' or m.person == user for m in thing.team.members)", [YES, YES, YES, NO, YES, NO]),
    ("any(True for m in thing.team.members)", [NO, NO, NO, YES, YES, YES]),
    ("all(False for m in thing.team.members)", [YES, YES, YES, NO, NO, NO]),
    ("True", [YES] * 6),
    ("False or not True", [NO] * 6),
    ("thing.public or user.staff and thing.team is None", [YES, YES, YES, NO, NO, NO]),
    ("(thing.public or user.staff) and thing.team is not None", [NO, NO, NO, YES, NO, NO]),
    ("has(thing.team)", [NO, NO, NO, YES, YES, YES]),
    ("not has(thing.team)", [YES, YES, YES, NO, NO, NO]),
]
LINES = [
    # An `if` without and with `else`, and blocks that run to their end.
    ("if thing.public:\n    return True", [YES, YES, YES, NO, NO, NO]),
    ("if thing.public:\n    return False\nelse:\n    return user.staff", [NO, NO, NO, YES, NO, NO]),
    ("if thing.public:\n    if user.staff:\n        return False\nelse:\n    x = thing\nreturn True",
     [NO, YES, YES, YES, YES, YES]),
    ("if not thing.public:\n    if user.staff:\n        return True\n    else:\n        return False\nreturn False",
     [NO, NO, NO, YES, NO, NO]),
    # `for`: the first row for which the block returns ends the check.
    ("for m in thing.team.members:\n    if m.person == user:\n        return True\nreturn thing.public",
     [YES, YES, YES, YES, YES, NO]),
    ("for m in thing.team.members:\n    if m.person == user:\n        return False\nreturn True",
     [YES, YES, YES, NO, NO, YES]),
    ("for m in thing.team.members:\n    x = m.person\nreturn user.staff", [YES, NO, NO, YES, NO, NO]),
    # Names: rows and None.
    ("x = thing.team\nreturn x is None", [YES, YES, YES, NO, NO, NO]),
    ("x = thing.team\ny = user.team\nreturn x == y", [NO, YES, NO, YES, NO, NO]),
    ("x = thing.owner\ny = x.team\nz = y\nreturn z.code is None or z == user.team", [YES, YES, YES, YES, NO, NO]),
    ("for m in thing.team.members:\n    x = m.person\n    if x == user:\n        y = x.team\n        if y.code == 'blue':\n"
     "            return True\nreturn False", [NO, NO, NO, YES, NO, NO]),
    # Lines behind a `return`, and a check that ends without one.
    ("return True\nreturn False\nx = thing", [YES] * 6),
    ("x = thing", [NO] * 6),
    ("if True:\n    return thing.public\n    return True\nreturn True", [YES, YES, YES, NO, NO, NO]),
    ("for m in thing.team.members:\n    return True\n    return True\nreturn False", [NO, NO, NO, YES, YES, YES]),
    ("if False:\n    return True\nelse:\n    x = user\nif user.staff:\n    return True", [YES, NO, NO, YES, NO, NO]),
]


class OneLineTest(unittest.TestCase):
    def test_what_it_admits(self):
        store = Store(example(), example_rows())
        uses = {"has": everything(example(), "team")}
        for test, expected in ONE_LINE:
            for text in (f"return {test}", f"return not(not({test}))", f"return( {test} )and True"):
                check = Check(example(), "doc", text, uses=uses)
                found = [check.admits(store, thing, user) for thing, user in pairs_of(store, "doc")]
                self.assertEqual(found, expected, text)

    def test_square_brackets_in_which_none_equals_none(self):
        store = Store(example(), {"team": [(None,)], "person": [(True, None), (True, 0)],
                                  "doc": [(True, 1, 0, 1)], "member": [(0, None, "a")]})
        for text, expected in (("user.team in [m.person.team for m in thing.team.members]", [YES, NO]),
                               ("user.team.code in [m.team.code for m in thing.team.members]", [YES, YES]),
                               ("user.team in [m.team for m in thing.team.members]", [NO, YES]),
                               ("user.team not in [m.person.team for m in user.team.members]", [YES, YES])):
            check = Check(example(), "doc", f"return {text}")
            self.assertEqual([check.admits(store, 0, user) for user in range(2)], expected, text)


class LinesTest(unittest.TestCase):
    def test_what_they_admit(self):
        store = Store(example(), example_rows())
        for text, expected in LINES:
            check = Check(example(), "doc", text)
            found = [check.admits(store, thing, user) for thing, user in pairs_of(store, "doc")]
            self.assertEqual(found, expected, text)
            for user in range(3):
                things = [thing for thing in range(2) if expected[3 * thing + user]]
                self.assertEqual(list(check(store, user)), things, text)

    def test_for_within_for(self):
        store = Store(deep(), {
            "org": [("a", True), ("b", True)], "person": [(True, 0, None), (True, 1, None)],
            "team": [(0, 1), (0, 2), (1, 3)], "member": [(0, "x"), (1, "y"), (1, "z"), (2, "x")],
            "note": [(2, 0, 5, True), (3, 0, 5, False)],
        })
        text = ("for t in thing.org.teams:\n    for m in t.members:\n        if m.role == 'x':\n            y = m\n"
                "        else:\n            for n in m.notes:\n                if n.by == user and n.public:\n"
                "                    return True\nreturn user.org == thing.org")
        check = Check(deep(), "person", text)
        self.assertEqual([check.admits(store, *pair) for pair in pairs_of(store, "person")], [YES, NO, NO, YES])
        self.assertEqual(check.walks(), ["team", "member", "note"])

    def test_twenty_lines(self):
        lines = ["if thing.level == 1:", "    return user.staff"]
        for level in range(2, 10):
            lines += [f"if thing.level == {level}:", "    return thing.public"]
        lines += ["x = thing.owner", "return x == user"]
        self.assertEqual(len(lines), 20)
        check = Check(example(), "doc", "\n".join(lines))
        store = Store(example(), {"person": [(True, None), (False, None)],
                                  "doc": [(False, 1, None, 1), (True, 9, None, 1), (False, 10, None, 1)]})
        self.assertEqual([check.admits(store, *pair) for pair in pairs_of(store, "doc")], [YES, NO, YES, YES, NO, YES])


class RandomChecksTest(unittest.TestCase):
    """Random checks against a second spelling of what they mean and count."""

    def test_what_they_admit(self):
        told = []
        for chance in chances(500):
            schema = some_schema(chance)
            made = some_spelled(chance, schema, "check", chance.randint(1, 15))
            store = Store(schema, some_rows(chance, tables_of(schema), 4))
            for thing, user in pairs_of(store, made.table):
                told.append(made.value(store, thing, user))
                self.assertIs(made.right.admits(store, thing, user), told[-1], made.text)
        self.assertGreater(told.count(True), 500)
        self.assertGreater(told.count(False), 500)

    def test_what_they_tell(self):
        for chance in chances(500):
            schema = some_schema(chance)
            made = some_spelled(chance, schema, "check", chance.randint(1, 20))
            right = made.right
            self.assertEqual(right.text, made.text)
            for again in (right, Check(schema, made.table, str(right))):
                self.assertEqual(str(again), made.spelling)
                self.assertEqual(again.tests(), made.tests)
                self.assertEqual(again.weight(), made.weight)
                self.assertEqual(again.walks(), made.walked)
                self.assertEqual((again.schema, again.table), (schema, made.table))


class TellingTest(unittest.TestCase):
    def test_spelling(self):
        text = "if thing.public:\n    return  user in[m.person for m in thing.team.members]\nelse  :\n    return thing . level<3  "
        spelling = ("if thing.public :\n    return user in [ m.person for m in thing.team.members ]\nelse :\n"
                    "    return thing.level < 3")
        check = Check(example(), "doc", text)
        self.assertEqual((check.text, str(check)), (text, spelling))
        self.assertEqual(check.tests(), ["thing.public", "user in [ m.person for m in thing.team.members ]", "thing.level < 3"])
        self.assertEqual((check.weight(), check.walks()), (2 + 8 + 2, ["member"]))

    def test_weights(self):
        for text, weight, walks in (
            ("return True", 1, []),
            ("x = thing.owner.team", 2, []),
            ("return thing.owner in [m.person for m in thing.team.members]", 10, ["member"]),
            ("for m in thing.team.members:\n    return True", 4, ["member"]),
            ("for m in thing.team.members:\n    x = m.person\n    if x == user:\n        return False", 2 + 2 * 3, ["member"]),
            ("return any(m.person == user for m in thing.team.members)", 2 + 2 * 2, ["member"]),
        ):
            check = Check(example(), "doc", text)
            self.assertEqual((check.weight(), check.walks()), (weight, walks), text)

    def test_walks_stand_in_the_order_in_which_they_begin(self):
        text = ("if user.org in [t.org for t in thing.org.teams] or any(any(True for n in m.notes) for m in thing.members):\n"
                "    for o in thing.members:\n        if any(True for p in o.notes):\n            return True\n"
                "return all(True for u in user.org.teams)")
        check = Check(deep(), "team", text)
        self.assertEqual(check.walks(), ["team", "member", "note", "member", "note", "team"])

    def test_a_question_and_a_check_of_one_right(self):
        store = Store(example(), example_rows())
        question = Question(example(), "doc", "thing.owner = user or some thing.team.members as m (m.person = user)")
        check = Check(example(), "doc", "if thing.owner == user:\n    return True\nfor m in thing.team.members:\n"
                                        "    if m.person == user:\n        return True")
        for pair in pairs_of(store, "doc"):
            self.assertEqual(question.admits(store, *pair), check.admits(store, *pair))
