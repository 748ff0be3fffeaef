"""Weights around the most that a right may have, and which error goes ahead."""

import unittest

from listandpage.checks import Check
from listandpage.errors import BadCheck, BadQuestion, ListandpageError, NoName, TooMany
from listandpage.questions import Question
from listandpage.rights import Right, all_of, any_of, everything
from tests.samples import NO_NAMES, deep, example

IN_LIST = "user in thing.team.members.person"
BRACKETS = "user in [m.person for m in thing.team.members]"


def joined(parts, word=" or "):
    return word.join(parts)


class MostTest(unittest.TestCase):
    def too_heavy(self, made):
        with self.assertRaises(TooMany) as caught:
            made()
        self.assertEqual(caught.exception.what, "weight")
        self.assertIsInstance(caught.exception, ListandpageError)

    def check_most(self, schema, table, text, check=None, uses=None):
        """A text of weight 100, in which one `true` more is too much."""
        self.assertEqual(Question(schema, table, text, uses=uses).weight(), 100)
        self.too_heavy(lambda: Question(schema, table, text + " and true", uses=uses))
        if check is not None:
            self.assertEqual(Check(schema, table, "return " + check, uses=uses).weight(), 100)
            self.too_heavy(lambda: Check(schema, table, "return " + check + " and True", uses=uses))

    def test_the_most_is_a_hundred(self):
        self.assertEqual(Right.MOST, 100)

    def test_plain_texts(self):
        self.check_most(example(), "doc", joined(["thing.public"] * 50), joined(["thing.public"] * 50))
        self.check_most(example(), "doc", joined(["true"] * 100), joined(["True"] * 100))
        self.check_most(example(), "doc", joined(["thing.owner.team lacks", "thing = thing"] * 25, " and "))

    def test_walks(self):
        walk = "some thing.team.members as m ({})"
        self.check_most(example(), "doc", walk.format(joined(["m.role = 'a'"] * 24)) + " or thing.public")
        walk = "any({} for m in thing.team.members)"
        self.check_most(example(), "doc", joined(["thing.public"] * 50), walk.format(joined(["m.role == 'a'"] * 24))
                        + " or thing.public")

    def test_lists_behind_in(self):
        self.check_most(example(), "doc", joined([IN_LIST] * 12 + ["thing.public"] * 2))
        self.check_most(example(), "doc", joined(["true"] * 100), joined([BRACKETS] + ["thing.public"] * 46))

    def test_in_lists_within_a_walk_count_twice_only(self):
        text = "some thing.org.teams as t ({})"
        inner = "t in t.members.team"
        # 2 for the head; 2 * (1 + 1 + 1) for each test.
        self.check_most(deep(), "person", text.format(joined([inner] * 16)) + " or thing.staff")

    def test_blocks(self):
        lines = ["for m in thing.team.members:"] + ["    if m.role == 'a' or m.role == 'b':", "        x = m.person"]
        for number in range(1, 9):
            lines += ["    if m.role == 'a' or m.role == 'b':", f"        {'x' * (number - 1)}y = m.person"]
        # 2 for the head; 2 * (4 + 1) for each pair of lines.
        self.assertEqual(Check(example(), "doc", "\n".join(lines)).weight(), 2 + 9 * 10)
        heavier = "\n".join(lines).replace("'a' or", "'a' or m.role == 'c' or", 2)
        self.assertEqual(Check(example(), "doc", heavier).weight(), 100)
        self.too_heavy(lambda: Check(example(), "doc", heavier + "\nreturn True"))

    def test_used_rights(self):
        heavy = Question(example(), "doc", joined(["thing.public"] * 47) + " or true")
        self.assertEqual(heavy.weight(), 95)
        self.check_most(example(), "doc", "a(thing) or thing.public and thing.public", uses={"a": heavy})
        walking = Question(deep(), "member", "some thing.notes as n ({})".format(joined(["n.public"] * 11)))
        self.assertEqual(walking.weight(), 45)
        # Within a walk its head counts twice, the brackets no more: 1 + 2 * (1 + 1) + 44.
        text = "some thing.members as m (w(m)) and some thing.members as o (w(o)) and true and true"
        self.check_most(deep(), "team", text, uses={"w": walking})

    def test_rights_that_are_made(self):
        forty = Question(example(), "doc", joined(["thing.public"] * 20))
        most = any_of(forty, forty) | Question(example(), "doc", joined(["true"] * 18))
        self.assertEqual(most.weight(), 100)
        more = Question(example(), "doc", joined(["true"] * 19))
        self.too_heavy(lambda: any_of(forty, forty) | more)
        self.too_heavy(lambda: any_of(forty, forty) & more)
        self.too_heavy(lambda: any_of(forty, forty) - more)
        self.too_heavy(lambda: ~most)
        self.too_heavy(lambda: any_of(most))
        self.too_heavy(lambda: all_of(most))
        self.too_heavy(lambda: all_of(forty, forty, forty))
        self.too_heavy(lambda: Question(example(), "doc", "a(thing)", uses={"a": most}))
        self.assertEqual(most.weight(), 100)


class OrderTest(unittest.TestCase):
    def test_a_fault_of_the_text_is_told_first(self):
        for end, at in ((" or thing.foo", 4 + 200 * 8 + 6), (" or foo", 4 + 200 * 8), (" or", 3 + 200 * 8)):
            with self.assertRaises(BadQuestion) as caught:
                Question(example(), "doc", joined(["true"] * 201) + end)
            self.assertEqual(caught.exception.at, at + 4)
        with self.assertRaises(BadCheck) as found:
            Check(example(), "doc", "return " + joined(["True"] * 201) + "\nfoo")
        self.assertEqual((found.exception.line, found.exception.at), (1, 3))
        uses = {"a": everything(example(), "doc")}
        with self.assertRaises(BadQuestion) as caught:
            Question(example(), "doc", joined(["a(thing)"] * 101) + " or a(user)", uses=uses)
        self.assertEqual(caught.exception.at, 101 * 12)

    def test_no_table_is_told_ahead_of_everything(self):
        for name in NO_NAMES + ("nothing", "thing", Question(example(), "doc", "true")):
            for made in (Question, Check):
                for text in ("true", "return True", "", None, 7, "true or " * 200, joined(["true"] * 101)):
                    with self.assertRaises(NoName) as caught:
                        made(example(), name, text)
                    self.assertIs(caught.exception.name, name)
