"""Trees of cases: which values are trees with right leaves for two rights, and which are certificates."""

import unittest

from listandpage.cases import is_certificate, is_tree
from listandpage.checks import Check
from listandpage.errors import Mismatch, TooMany
from listandpage.judging import judge
from listandpage.questions import Question
from listandpage.rights import any_of, everything, nothing
from listandpage.schemas import Schema
from listandpage.stores import Store
from tests.meanings import some_spelled
from tests.mutants import mutant
from tests.samples import EXAMPLE_TABLES, NO_NAMES, NO_TEXTS, chances, deep, example, example_rows, loose, some_schema
from tests.settling import Trees
from tests.test_kept import some_right


def read(schema, table, text, uses=None):
    made = Check if "return" in text else Question
    return made(schema, table, text, uses=uses)


class TreeCase(unittest.TestCase):
    schema = None
    table = None

    def ask(self, texts, tree, least=0, uses=None):
        rights = [text if not isinstance(text, str) else read(self.schema, self.table, text, uses) for text in texts]
        return is_tree(*rights, tree, least=least)

    def right(self, texts, *trees, least=0, uses=None):
        for tree in trees:
            self.assertIs(self.ask(texts, tree, least, uses), True, tree)

    def wrong(self, texts, *trees, least=0, uses=None):
        for tree in trees:
            self.assertIs(self.ask(texts, tree, least, uses), False, tree)


class FormTest(TreeCase):
    schema = example()
    table = "doc"

    def test_leaves(self):
        self.right(("true", "not false"), True)
        self.right(("false", "return False"), False)
        self.wrong(("true", "not false"), False, "clash", "enough", 1, 0, None, "True", (True,), [True], (), "")
        self.wrong(("true", "false"), True, False, "clash", "enough")
        self.wrong(("true", "thing.public"), True, False)

    def test_enough(self):
        pair = ("true", "false")
        for least, told in ((0, False), (1, True), (2, True), (3, False), (-1, False)):
            self.assertIs(self.ask(pair, "enough", least), told)

        def owner(*behind):
            return ("link", 0, "owner", behind)

        # Behind a new owner three rows are named, behind the user as the owner two.
        self.right(pair, owner("enough", "enough"), least=2)
        self.wrong(pair, owner("enough", "enough"), least=3)
        self.wrong(pair, owner(("flag", 0, "public", ("enough", "enough")), "enough"), least=3)
        self.right(pair, owner(("flag", 0, "public", ("enough", "enough")), "enough"), least=2)
        self.right(("thing.owner = user", "thing.owner = user and true"), owner(True, "enough"), owner(True, False),
                   least=3)

    def test_flags(self):
        pair = ("thing.public", "return thing.public")
        tree = ("flag", 0, "public", (False, True))
        self.right(pair, tree)
        self.wrong(pair, ("flag", 0, "public", (True, False)), ("flag", 0, "public", (False,)),
                   ("flag", 0, "public", (False, True, True)), ("flag", 0, "public", [False, True]),
                   ("flag", 0, "public", False, True), ("flag", 1, "public", (False, True)),
                   ("flag", 0, "level", (False, True)), ("word", 0, "public", (False, True)),
                   ("flag", 2, "public", (False, True)), ("flag", -1, "public", (False, True)),
                   ("flag", False, "public", (False, True)), ("flag", 0, "staff", (False, True)),
                   ("flag", None, "public", (False, True)), ["flag", 0, "public", (False, True)],
                   ("flag", 0, "public", (0, 1)), ("flag", 0, ("public",), (False, True)), ("same", (tree, tree)),
                   ("flag", 0, "public", (("flag", 0, "public", (False, True)), True)))
        self.right(pair, ("flag", 1, "staff", (tree, tree)))

    def test_links(self):
        pair = ("thing.team lacks", "return thing.team is None")
        self.right(pair, ("link", 0, "team", (True, False)))
        self.wrong(pair, ("link", 0, "team", (True, False, False)), ("link", 0, "team", (True,)),
                   ("link", 0, "owner", (True, False)))
        # The owner is the user or a new person; the team of the thing that of the user, or another one.
        pair = ("thing.team = user.team", "not thing.team != user.team")
        known = ("link", 1, "team", (False, True, False))
        self.right(pair, ("link", 0, "team", (False, known)), ("link", 1, "team", (False, ("link", 0, "team", (
            False, True, False)))))
        self.wrong(pair, ("link", 0, "team", (False, ("link", 1, "team", (False, True)))),
                   ("link", 0, "team", (False, ("link", 1, "team", (False, False, True)))),
                   ("link", 0, "team", (False, ("link", 2, "team", (False, True, False)))),
                   ("link", 0, "team", (False, ("link", 0, "team", (False, True, False)))))

    def test_words(self):
        pair = ("thing.team.code in ('b', 'a')", "return thing.team.code == 'a' or thing.team.code == 'b'")
        self.right(pair, ("link", 0, "team", (False, ("word", 2, "code", (False, True, True, False)))))
        self.wrong(pair, ("link", 0, "team", (False, ("word", 2, "code", (False, True, True)))),
                   ("link", 0, "team", (False, ("word", 2, "code", (True, True, False)))),
                   ("link", 0, "team", (False, ("word", 1, "code", (False, True, True, False)))))

    def test_new_words(self):
        pair = ("thing.team.code = user.team.code", "return False")
        def tree(*behind):
            return ("link", 0, "team", (False, ("link", 1, "team", (False, "enough", ("word", 2, "code", (
                False, ("word", 3, "code", behind)))))))
        # None, the new word of the other team, a new one.
        self.right((pair[0], pair[0]), tree(False, True, False), least=3)
        self.wrong((pair[0], pair[0]), tree(False, False, True), tree(False, True), tree(False, True, False, False),
                   least=3)
        self.wrong(pair, tree(False, True, False), tree(False, False, False), least=3)

    def test_numbers(self):
        pair = ("thing.level > 5 and thing.level != 7", "return thing.level > 5 and not thing.level == 7")
        # Less than 5, 5, between, 7, greater.
        self.right(pair, ("number", 0, "level", (False, False, True, False, True)))
        self.wrong(pair, ("number", 0, "level", (False, False, "clash", False, True)),
                   ("number", 0, "level", (False, True, False, True)), ("number", 0, "level", (False,) * 5))
        pair = ("thing.level > 5 and thing.level < 6", "false")
        self.right(pair, ("number", 0, "level", (False, False, "clash", False, False)))
        self.wrong(pair, ("number", 0, "level", (False,) * 5), ("number", 0, "level", (False, "clash", "clash", False,
                                                                                     False)))
        # Behind such an answer all that is settled may be said, too, and a clash further down.
        self.right(("thing.level > 5 and thing.level < 6", "thing.level < 6 and thing.level > 5"),
                   ("number", 0, "level", (False, False, True, False, False)),
                   ("number", 0, "level", (False, False, ("flag", 0, "public", ("clash", True)), False, False)))
        self.right(("true", "true"), ("number", 0, "level", (True,)))
        self.wrong(("true", "true"), ("number", 0, "level", (True, True)), ("number", 0, "level", ()))

    def test_the_number_0(self):
        pair = ("thing.level < 0", "not thing.level >= 0")
        self.right(pair, ("number", 0, "level", (True, False, False)))
        self.wrong(pair, ("number", 0, "level", (False, False, False)), ("number", 0, "level", (True, True, False)))

    def test_a_clash_stays(self):
        pair = ("thing.level > 5 and thing.level < 6 and thing.team lacks", "some thing.team.members as m (true) and false")
        below = ("link", 0, "team", ("clash", ("some", 0, (), ("clash", ("flag", 0, "public", ("clash", "clash"))))))
        self.right(pair, ("number", 0, "level", (False, False, below, False, False)))
        self.wrong(pair, ("number", 0, "level", (False, below, False, False, False)),
                   ("number", 0, "level", (below, False, "clash", False, False)))

    def test_numbers_of_other_columns_do_not_count(self):
        self.schema, self.table = deep(), "note"
        text = "thing.stars = 3 or thing.member.team.size = 4"
        self.right((text, text), ("number", 0, "stars", (
            ("link", 0, "member", (("link", 2, "team", (False, ("number", 3, "size", (False, True, False)))),)),
            True,
            ("link", 0, "member", (("link", 2, "team", (False, ("number", 3, "size", (False, True, False)))),)))))

    def test_errors(self):
        for made in (is_tree, is_certificate):
            for other in (everything(self.schema, "team"), everything(Schema("team", EXAMPLE_TABLES), "doc")):
                with self.assertRaises(Mismatch) as caught:
                    made(everything(self.schema, "doc"), other, None)
                self.assertEqual(caught.exception.at, 1)
        right = everything(self.schema, "doc")
        self.assertIs(is_tree(one=right, two=right, thing=True, least=0), True)
        self.assertIs(is_certificate(one=right, two=right, thing=("alike", True)), True)
        with self.assertRaises(TypeError):
            is_tree(right, right, True, 0)

    def test_any_values_are_no_trees(self):
        right = everything(self.schema, "doc")
        store = Store(self.schema, example_rows())
        for thing in (*NO_TEXTS, *NO_NAMES, store, right, (right, right), ("flag", right, store, (right,)),
                      ("some", 0, (0,), (True, True)), ("some", right, right, (True,)), ("link", 0, right, (True, True)),
                      ("flag", 0, "public", (right, store)), ("flag", (), [], ()), (None,) * 4, ((), (), (), ())):
            expected = thing is True
            self.assertIs(is_tree(right, right, thing), expected)
            self.assertIs(is_tree(right, right, thing, least=2), expected)
            self.assertIs(is_certificate(right, right, thing), thing == ("alike", True))
            self.assertIs(is_certificate(right, right, ("alike", thing)), expected)

    def test_very_deep_trees(self):
        right = everything(self.schema, "doc")
        tree = True
        for row in reversed(range(3, 103)):
            # Each new row is the team of the person who was named last.
            tree = ("link", 0, "owner", (tree, tree)) if row == 3 else ("flag", row, "public", (tree, True))
        self.assertIs(is_tree(right, right, tree), False)
        tree = True
        for _ in range(20000):
            tree = ("flag", 0, "public", (tree, True))
        self.assertIs(is_tree(right, right, tree), False)
        self.assertIs(is_certificate(right, right, ("alike", tree)), False)


class SameTest(TreeCase):
    schema = example()
    table = "person"

    def test_same(self):
        pair = ("thing = user", "return thing == user")
        self.right(pair, ("same", (False, True)))
        self.wrong(pair, ("same", (True, False)), ("same", [False, True]), ("same", (False, True, True)),
                   ("same", (False,)), ("same", False, True), True, False, ("same", ("same", (False, True)), True),
                   ("same", (("same", (False, True)), True)), ["same", (False, True)], ("some", (False, True)))
        self.wrong(("true", "true"), True)
        self.right(("true", "true"), ("same", (True, True)))

    def test_one_row_has_the_name_0(self):
        pair = ("thing.staff and user.staff", "thing.staff and user.staff and true")
        one = ("flag", 0, "staff", (False, True))
        two = ("flag", 0, "staff", (False, ("flag", 1, "staff", (False, True))))
        self.right(pair, ("same", (two, one)))
        self.wrong(pair, ("same", (two, two)), ("same", (one, one)), ("same", (one, two)))
        # The next row is named 1.
        team = ("link", 0, "team", (False, ("word", 1, "code", (False, True, False))))
        pair = ("thing.team.code = 'a' and thing = user",) * 2
        self.right(pair, ("same", (False, team)))
        self.right(pair, ("same", ("enough", "enough")), least=1)
        self.wrong(pair, ("same", ("enough", "enough")), least=2)
        self.right(pair, ("same", ("enough", team)), least=2)


class SomeTest(TreeCase):
    schema = deep()
    table = "team"
    TEXT = "some thing.members as m (m.role = 'a')"

    def test_answers(self):
        # No row of the list counts, or a new one.
        self.right((self.TEXT, "false and " + self.TEXT), ("some", 0, (), (False, "enough")), least=3)
        self.wrong((self.TEXT, "false and " + self.TEXT), ("some", 0, (), (False, "enough", "enough")),
                   ("some", 0, (), ("enough", False)), least=3)
        role = ("word", 2, "role", ("clash", True, "clash"))
        self.right((self.TEXT, "return any(m.role == 'a' for m in thing.members)"),
                   ("some", 0, (), (("some", 1, (), (False, ("word", 2, "role", ("clash",) * 3))), role)))

    def test_the_same_walk_of_two_rights_is_two_walks(self):
        pair = (self.TEXT, self.TEXT)
        row = ("word", 2, "role", ("clash", "clash", "clash"))
        good = ("word", 2, "role", ("clash", True, "clash"))
        self.right(pair, ("some", 0, (), (("some", 1, (), (False, row)), good)))
        self.right(pair, ("some", 1, (), (("some", 0, (), (False, row)), good)))
        self.wrong(pair, ("some", 0, (), (False, True)), ("some", 0, (), (("some", 0, (), (False, row)), good)),
                   ("some", 0, (), (("some", 1, (), (False, row, row)), good)),
                   ("some", 2, (), (False, True)), ("some", True, (), (("some", 1, (), (False, row)), good)),
                   ("some", 0, [], (("some", 1, (), (False, row)), good)),
                   ("some", 0, (0,), (("some", 1, (), (False, row)), good)),
                   ("some", 0, (), (("some", 1, (), (False, row)), True)),
                   ("some", 0, (), (("some", 1, (), (False, True)), good)))

    def test_a_walk_is_asked_once(self):
        pair = ("true", "true or " + self.TEXT)
        self.right(pair, ("some", 0, (), (True, True)))
        self.wrong(pair, ("some", 0, (), (("some", 0, (), (True, True)), True)),
                   ("some", 0, (), (True, ("some", 0, (), (True, True, True)))))
        self.right(pair, ("some", 0, (), (("flag", 1, "staff", (True, True)), True)))

    def test_the_list_of_a_row_that_lacks_is_not_asked(self):
        self.table = "member"
        pair = ("true", "true or some thing.team.members as m (true)")
        self.right(pair, ("link", 0, "team", (True, ("some", 0, (), (True, True, True)))))
        self.wrong(pair, ("link", 0, "team", (("some", 0, (), (True, True, True)), True)),
                   ("link", 0, "team", (("some", 0, (), (True, True)), True)))

    def test_rows_around(self):
        text = "some thing.members as m (some m.notes as n (n.public))"
        pair = (text, "false")
        self.right((text, text + " and true"), ("some", 0, (), (
            ("some", 2, (), (False, ("some", 3, (2,), ("clash", ("flag", 3, "public", ("clash", "clash")))))),
            ("some", 1, (2,), ("clash", ("flag", 3, "public", ("clash", True)))))))
        for rows in ((), (0,), (1,), (3,), (True,), (2, 2), [2], (-1,), None, 2):
            self.wrong((text, text + " and true"), ("some", 0, (), (
                ("some", 2, (), (False, ("some", 3, (2,), ("clash", ("flag", 3, "public", ("clash", "clash")))))),
                ("some", 1, rows, ("clash", ("flag", 3, "public", ("clash", True)))))))
        self.wrong(pair, ("some", 1, (2,), (False, False)))

    def test_a_row_around_need_not_be_in_the_list(self):
        self.table = "member"
        text = "some thing.team.members as m (some m.notes as n (n.public))"
        # The thing itself, a member, may stand for m; there is a note that counts for it in the list of its notes.
        self.right(("true", text + " or true"), ("some", 1, (0,), (True, True)))
        self.wrong(("true", text + " or true"), ("some", 0, (), (True, True, True)), ("some", 1, (1,), (True, True)))
        self.right(("true", text + " or true"), ("link", 0, "team", (True, ("some", 0, (), (True, True, True)))))

    def test_the_row_whose_list_is_walked_must_be_known(self):
        self.table = "note"
        text = "some thing.member.notes as n (n.public)"
        self.wrong((text, text), ("some", 0, (), (False, True, True)))
        self.right((text, "true or " + text), ("link", 0, "member", (("some", 0, (), ("enough",) * 3),)), least=2)
        self.wrong((text, "true or " + text), ("link", 0, "member", (("some", 0, (), ("enough",) * 2),)), least=2)

    def test_an_answer_makes_the_link_known(self):
        row = lambda *behind: ("some", 0, (), (False, *behind))
        pair = ("some thing.members as m (m.team = thing)", "some thing.members as m (true) and false")
        self.wrong((pair[0], "false"), row(True), row("clash"))
        self.right(("false", "false and some thing.members as m (true)"), ("some", 0, (), (False, False)))
        self.wrong(("false", "false and some thing.members as m (true)"),
                   ("some", 0, (), (False, ("link", 2, "team", (False, False, False)))))

    def test_clashes_of_links(self):
        self.table = "member"
        text = "some thing.team.members as m (m.role = 'a')"
        other = "some user.org.teams as t (some t.members as k (k.role = 'a'))"
        # Row 3 is the team of the user's org that counts; 0 is a member of team 2, and so cannot count there.
        tree = ("link", 0, "team", (False, ("link", 1, "org", (False, ("some", 1, (), (False, False, ("some", 2, (4,), (
            False, "clash", False))))))))
        self.right(("false", f"false and {text} and {other}"), tree)
        tree = ("link", 0, "team", (False, ("link", 1, "org", (False, ("some", 1, (), (False, False, ("some", 2, (4,), (
            False, False, "clash"))))))))
        self.wrong(("false", f"false and {text} and {other}"), tree)
        # What is settled behind such an answer may be said, too.
        tree = ("link", 0, "team", (False, ("link", 1, "org", (False, ("some", 1, (), (False, False, ("some", 2, (4,), (
            False, ("flag", 1, "staff", ("clash", False)), False))))))))
        self.right(("false", f"false and {text} and {other}"), tree)

    def test_a_row_that_counts_where_none_was_to(self):
        self.table = "member"
        text = "some thing.team.members as m (m.role = 'a')"
        asked = lambda *behind: ("link", 0, "team", (False, ("some", 0, (), (("word", 0, "role", behind), False, False))))
        self.right(("false", "false and " + text), asked(False, "clash", False))
        self.wrong(("false", "false and " + text), asked(False, False, "clash"), asked("clash", "clash", False))
        # Before the link is known it is not settled.
        tree = ("word", 0, "role", (False, "clash", False))
        self.wrong(("false", "false and " + text), tree)


class SettledTest(TreeCase):
    """What is settled, told by trees with a right that is always the same beside it."""

    schema = example()
    table = "doc"

    def test_paths_that_lack_early(self):
        self.right(("thing.team.code = 'a'", "false"), ("link", 0, "team", (False, "enough")), least=2)
        self.right(("thing.team.code lacks or true", "true"), True)
        self.right(("thing.team.code lacks", "thing.team lacks"), ("link", 0, "team", (True, "enough")), least=3)
        self.wrong(("thing.owner.team lacks", "true"), ("link", 0, "owner", ("enough", True)), least=2)

    def test_two_claims_of_a_question(self):
        lacking = lambda leaf: ("link", 0, "team", (leaf, "enough"))
        for text in ("thing.team = user.team", "not thing.team = user.team", "thing.team != user.team",
                     "not (thing.team = user.team or false)", "not (thing.team = user.team and true)",
                     "thing.team.code in ('a')", "thing.team.code not in ('a')", "thing.team = user.team and thing.public",
                     "not (thing.team = user.team or thing.public)"):
            self.right((text, "false"), lacking(False), least=3)
            self.wrong((text, "true"), lacking(True), least=3)
        flag = ("flag", 0, "public", (False, True))
        for text in ("thing.team = user.team or thing.public", "not (thing.team = user.team and not thing.public)"):
            self.wrong((text, "false"), lacking(False), least=3)
            self.right((text, "thing.public"), lacking(flag), least=3)

    def test_tests_of_checks_have_one_claim(self):
        lacking = lambda leaf: ("link", 0, "team", (leaf, "enough"))
        for text, told in (("thing.team.code == 'a'", False), ("thing.team.code != 'a'", True),
                           ("thing.team.code not in ('a')", True), ("not thing.team.code in ('a')", True)):
            self.right(("return " + text, "true" if told else "false"), lacking(told), least=3)
            self.wrong(("return " + text, "true" if told else "false"), lacking(not told), least=3)
        # Both values must be known, also if one lacks.
        self.wrong(("return thing.team == user.team", "false"), lacking(False), least=3)
        self.right(("return thing.team == user.team", "thing.team lacks and user.team lacks or thing.team = user.team"),
                   ("link", 0, "team", (("link", 1, "team", (True, False)), "enough")), least=3)

    def test_uses(self):
        uses = {"all": None}
        teams = {"t": everything(self.schema, "team"), "n": nothing(self.schema, "team"),
                 "c": read(self.schema, "team", "thing.code = 'a'")}
        lacking = lambda one, two: ("link", 0, "team", (one, two))
        self.right(("t(thing.team)", "not thing.team lacks"), lacking(False, True), uses=teams)
        self.wrong(("t(thing.team)", "true"), True, uses=teams)
        self.right(("n(thing.team)", "false"), False, uses=teams)
        self.right(("return n(thing.team)", "false"), False, uses=teams)
        self.right(("not n(thing.team)", "not thing.team lacks"), lacking(False, True), uses=teams)
        self.wrong(("not n(thing.team)", "true"), True, uses=teams)
        self.right(("not t(thing.team)", "false"), False, uses=teams)
        self.right(("return not n(thing.team)", "true"), True, uses=teams)
        self.wrong(("return t(thing.team)", "true"), True, uses=teams)
        self.right(("c(thing.team)", "return c(thing.team)"), lacking(False, ("word", 2, "code", (False, True, False))),
                   uses=teams)
        # A path that cannot lack is not known before it was asked.
        people = {"p": everything(self.schema, "person")}
        self.wrong(("p(thing.owner)", "true"), True, uses=people)
        self.right(("p(thing.owner)", "true"), ("link", 0, "owner", (True, True)), uses=people)
        self.right(("p(user)", "true"), True, uses=people)
        self.assertEqual(uses, {"all": None})

    def test_in_with_a_list(self):
        text = "user in thing.team.members.person"
        walks = lambda *behind: ("link", 0, "team", (False, ("some", 0, (), behind)))
        # True by a row of the first walk, not false only by the second one.
        self.right((text, "false"), walks(False, "enough"), least=4)
        self.wrong((text, "false"), walks("enough", "enough"), least=4)
        self.right((text, text), ("link", 0, "team", (False, ("some", 0, (), (
            ("some", 2, (), (False, ("link", 3, "person", ("clash", "clash", "clash")))),
            ("link", 3, "person", ("clash", True, "clash")))))))
        denied = "user not in thing.team.members.person"
        # The row of the second walk is the user's, or has none.
        second = ("some", 1, (), (True, ("link", 3, "person", ("enough", "enough", "clash"))))
        self.right((denied, "not thing.team lacks and true or thing.team lacks"), ("link", 0, "team", (True, second)),
                   least=4)
        self.wrong((denied, "not thing.team lacks and true or thing.team lacks"),
                   ("link", 0, "team", (True, ("some", 0, (), (True, "enough")))), least=4)

    def test_square_brackets(self):
        text = "return user.team.code in [m.role for m in thing.team.members]"
        # A team of the user that lacks is None, which no role is: known by both values, or not at all.
        tree = ("link", 0, "team", (False, ("link", 1, "team", (("some", 0, (), (False, ("word", 3, "role", (
            "clash", "clash")))), "enough", "enough"))))
        self.wrong((text, "return False"), tree, least=4)
        tree = ("link", 0, "team", (False, ("link", 1, "team", (("some", 0, (), (False, ("word", 3, "role", (
            "clash",)))), "enough", "enough"))))
        self.right((text, "return False"), tree, least=3)

    def test_blocks(self):
        text = "if thing.public:\n    return True\nreturn True"
        self.right((text, "true"), True)
        self.wrong((text.replace("    return True", "    x = thing"), "false"), False)
        self.right((text.replace("    return True", "    x = thing"), "true"), True)
        self.right(("if thing.public:\n    return False", "false"), False)
        self.wrong(("if thing.public:\n    return True", "false"), False)
        self.right(("if thing.public:\n    return True\nelse:\n    return True\nreturn False", "true"), True)
        self.wrong(("if thing.public:\n    return True\nelse:\n    x = thing\nreturn False", "true"), True)
        self.right(("if True:\n    return True\nelse:\n    return False", "true"), True)
        self.right(("return thing.public or True", "true"), True)

    def test_loops(self):
        head = "for m in thing.team.members:\n    "
        self.right((head + "x = m\nreturn True", "true"), True)
        self.wrong((head + "return True\nreturn False", "false"), False)
        self.right((head + "return True\nreturn True", "true"), True)
        self.right((head + "return False", "false"), False)
        self.right((head + "return True\nreturn False", "some thing.team.members as m (true)"),
                   ("link", 0, "team", (False, ("some", 0, (), (("some", 1, (), (False, "clash")), True)))))
        # Whether the block of a row returns is settled if it cannot run to its end, or can do nothing else.
        both = head + "if m.role == 'a':\n        return True\n    return True"
        self.right((both, "some thing.team.members as m (true)"),
                   ("link", 0, "team", (False, ("some", 0, (), (("some", 1, (), (False, "clash")), True)))))
        self.wrong((head + "if m.role == 'a':\n        return True\nreturn False", "some thing.team.members as m (true)"),
                   ("link", 0, "team", (False, ("some", 0, (), (("some", 1, (), (False, "clash")), True)))))
        # A row of a `for` without a `return` never counts.
        self.right((head + "x = m\nreturn False", "false"), ("link", 0, "team", (False, ("some", 0, (), (False,
                                                                                                     "clash")))))

    def test_loops_without_a_return_behind_one(self):
        self.schema, self.table = deep(), "org"
        text = "for t in thing.teams:\n    if t.size == 3:\n        return True\n    for m in t.members:\n        x = m"
        size = ("number", 2, "size", ("clash", "clash", "clash"))
        self.right((text, "some thing.teams as t (t.size = 3)"), ("some", 0, (), (
            ("some", 2, (), (False, size)), ("number", 2, "size", ("clash", True, "clash")))))

    def test_rights_that_are_put_together(self):
        public, always = read(self.schema, self.table, "thing.public"), everything(self.schema, "doc")
        self.right((public | always, public - always | always), True)
        self.right((public & ~always, public - always), False)
        self.right((public & always, any_of(public)), ("flag", 0, "public", (False, True)))
        unknown = read(self.schema, self.table, "thing.team.code = 'a'")
        self.right((~unknown, ~unknown & always), ("link", 0, "team", (True, "enough")), least=3)


class CertificateTest(unittest.TestCase):
    def setUp(self):
        self.one = Question(example(), "doc", "thing.team = user.team")
        self.two = Check(example(), "doc", "return thing.team == user.team")
        self.store = Store(example(), {"person": [(False, None)], "doc": [(False, 0, None, 0)]})

    def test_parting(self):
        good = ("part", self.store, 0, 0, "enough")
        self.assertIs(is_certificate(self.one, self.two, good), True)
        self.assertIs(is_certificate(self.two, self.one, good), True)
        tree = ("link", 0, "team", (("link", 1, "team", ("enough", False)), "enough"))
        self.assertIs(is_certificate(self.one, self.two, good[:4] + (tree,)), True)
        for wrong in (good[:4], good + (True,), list(good), ("alike",) + good[1:], ("some",) + good[1:],
                      (None,) + good[1:],  ("part", self.store, 1, 0, "enough"),
                      ("part", self.store, 0, 1, "enough"), ("part", self.store, False, 0, "enough"),
                      ("part", self.store, 0, None, "enough"), ("part", None, 0, 0, "enough"),
                      ("part", self.store, 0, 0, True), ("part", self.store, 0, 0, "clash"), ("alike", "enough"),
                      ("alike", tree), ("alike", True, True), ("alike",), (), "part", None, (None,) * 5):
            self.assertIs(is_certificate(self.one, self.two, wrong), False, wrong)
        self.assertIs(is_certificate(self.one, self.one, good), False)

    def test_a_store_that_is_too_large(self):
        larger = self.store.copy()
        larger.add("team", (None,))
        self.assertIs(is_certificate(self.one, self.two, ("part", larger, 0, 0, "enough")), False)
        tree = ("link", 0, "team", (("link", 1, "team", ("enough", "enough")), "enough"))
        self.assertIs(is_certificate(self.one, self.two, ("part", larger, 0, 0, tree)), False)
        same = self.store.copy()
        same.change("person", 0, "staff", True)
        self.assertIs(is_certificate(self.one, self.two, ("part", same, 0, 0, "enough")), True)

    def test_a_store_of_another_schema(self):
        filled = example().filled()
        other = Store(filled, {"team": [("a",)], "person": [(False, 0)], "doc": [(False, 0, 0, 0)]})
        self.assertIs(is_certificate(self.one, self.two, ("part", other, 0, 0, "enough")), False)

    def test_alike(self):
        other = Question(example(), "doc", "thing.team lacks and user.team lacks or thing.team = user.team")
        known = ("link", 1, "team", (False, True, False))
        tree = ("link", 0, "team", (("link", 1, "team", (True, False)), known))
        self.assertIs(is_certificate(other, self.two, ("alike", tree)), True)
        self.assertIs(is_certificate(self.one, self.two, ("alike", tree)), False)


class MutantTest(unittest.TestCase):
    def test_trees_with_one_part_put_otherwise(self):
        told = {True: 0, False: 0}
        for chance in chances(500):
            schema = chance.choice([example(), deep(), loose(), deep("org"), loose("b"), some_schema(chance)])
            table = chance.choice(schema.tables)
            uses = {name: some_spelled(chance, schema, chance.choice(["question", "check"]), 3) for name in "ab"}
            one = some_right(chance, schema, table, uses)
            two = one if chance.random() < 0.2 else some_right(chance, schema, table, uses)
            try:
                verdict = judge(one.right, two.right)
            except TooMany:
                continue
            certificate = verdict.certificate()
            self.assertIs(is_certificate(one.right, two.right, certificate), True)
            trees = Trees(one, two, schema, len(verdict))
            tree = certificate[-1]
            self.assertIs(trees.is_tree(tree), True)
            for _ in range(10):
                other = mutant(chance, tree)
                expected = trees.is_tree(other)
                self.assertIs(is_tree(one.right, two.right, other, least=len(verdict)), expected, other)
                told[expected] += 1
        self.assertGreater(min(told.values()), 100)
