"""Families: orders of kinds, what `super()` means in them, and dispatching rights."""

import unittest

from listandpage.cases import is_certificate
from listandpage.checks import Check
from listandpage.errors import BadCheck, BadKind, NoName, TooMany
from listandpage.families import Family
from listandpage.judging import judge, never
from listandpage.parts import bounds, kept_part
from listandpage.questions import Question
from listandpage.rights import Right, everything, nothing
from listandpage.schemas import Schema
from listandpage.stores import Store
from tests.meanings import pairs_of
from tests.samples import NO_NAMES, NO_TEXTS, chances, example, example_rows, some_rows, tables_of
from tests.test_trees import read

NO_KINDS = tuple(value for value in NO_NAMES if value != "team")
PUBLIC = "return thing.public"
OWNER = "return super() or thing.owner == user"
TEAM = "if thing.team is not None:\n    return super() and thing.team == user.team"


def python_order(name, bases, classes):
    """Python's own order of base classes, None if there is none; the class is kept."""
    try:
        classes[name] = type(name, tuple(classes[base] for base in bases), {})
    except TypeError:
        return None
    return tuple(made.__name__ for made in classes[name].__mro__ if made is not object)


class KindTest(unittest.TestCase):
    def setUp(self):
        self.family = Family(example(), "doc")

    def test_kinds_in_order(self):
        family = self.family
        self.assertEqual(family.kinds(), [])
        self.assertIsNone(family.add("b", (), PUBLIC))
        family.add("a")
        family.add("c", ["b", "a"])
        self.assertEqual(family.kinds(), ["b", "a", "c"])
        self.assertEqual(family.order("c"), ("c", "b", "a"))
        family.kinds().append("d")
        self.assertEqual(family.kinds(), ["b", "a", "c"])
        self.assertIsInstance(family.right("c"), Right)
        self.assertTrue(judge(family.right("c"), family.right("b")))

    def test_bases_may_be_changed(self):
        bases = ["b"]
        uses = {"r": everything(example(), "doc")}
        family = Family(example(), "doc", uses=uses)
        uses.clear()
        family.add("b", text="return r(thing)")
        family.add("c", bases)
        bases.append("b")
        bases[0] = "x"
        self.assertEqual(family.order("c"), ("c", "b"))
        self.assertEqual(family.wider(), [])
        self.assertTrue(judge(family.right("c"), everything(example(), "doc")))

    def test_the_table(self):
        for wrong in (*NO_KINDS, "no"):
            with self.assertRaises(NoName) as caught:
                Family(example(), wrong)
            self.assertIs(caught.exception.name, wrong)
        self.assertEqual(Family(table="team", schema=example(), uses=None).kinds(), [])

    def test_orders_as_those_of_python(self):
        told = {True: 0, False: 0}
        for chance in chances(400):
            family = Family(example(), "doc")
            classes = {}
            for name in "abcdefgh":
                known = family.kinds()
                bases = chance.sample(known, chance.randint(0, min(len(known), 4)))
                expected = python_order(name, bases, classes)
                told[expected is None] += 1
                if expected is None:
                    with self.assertRaises(BadKind) as caught:
                        family.add(name, bases)
                    self.assertEqual(caught.exception.name, name)
                    self.assertEqual(family.kinds(), known)
                else:
                    family.add(name, chance.choice([list, tuple])(bases))
                    self.assertEqual(family.order(name), expected)
        self.assertGreater(min(told.values()), 100)

    def test_errors_in_order(self):
        family = self.family
        family.add("a", (), PUBLIC)
        family.add("b", ["a"], "return True")
        heavy = "return " + " or ".join(["thing.public"] * 51)

        def refused(error, fields, *asked):
            with self.assertRaises(error) as caught:
                family.add(*asked)
            self.assertEqual(tuple(vars(caught.exception).values()), fields)
            self.assertEqual((family.kinds(), family.order("b")), (["a", "b"], ("b", "a")))

        for wrong in (*NO_KINDS, "a", "b", "thing", family, "thingsss" + "s"):
            refused(BadKind, (wrong,), wrong, ("no",), "no")
        for wrong in (*NO_KINDS, "c", "thing", family):
            refused(NoName, (wrong,), "c", ("a", "a", wrong, "no"), "no")
        for bases in (("a", "a"), ("a", "b"), ["b", "a", "b"]):
            refused(BadKind, ("c",), "c", bases, "no")
        for wrong in NO_TEXTS:
            if wrong is not None and not isinstance(wrong, str):
                refused(BadCheck, (-1, -1), "c", ("b", "a"), wrong)
        refused(BadCheck, (0, 0), "c", ("b", "a"), "")
        with self.assertRaises(BadCheck):
            family.add("c", (), heavy + " late")
        refused(TooMany, ("weight",), "c", (), heavy)
        refused(TooMany, ("weight",), "c", ("b",), "return super() or " + " or ".join(["True"] * 99))
        family.add("c", ("b",), "return super() or " + " or ".join(["True"] * 98))
        self.assertEqual(family.right("c").weight(), 100)
        with self.assertRaises(TooMany):
            family.add("d", ("c",), "return super()")
        self.assertEqual(family.kinds(), ["a", "b", "c"])

    def test_names_that_are_no_kinds(self):
        self.family.add("a")
        for asked in (self.family.order, self.family.right):
            for wrong in (*NO_KINDS, "b", "doc", self.family):
                with self.assertRaises(NoName) as caught:
                    asked(wrong)
                self.assertIs(caught.exception.name, wrong)

    def test_by_name(self):
        self.family.add(text=PUBLIC, bases=(), name="a")
        self.assertEqual(self.family.order(name="a"), ("a",))
        self.assertEqual(self.family.right(name="a").weight(), 2)
        family = Family(example(), "member")
        self.assertTrue(never(family.dispatch(column="role")))


class SuperTest(unittest.TestCase):
    def setUp(self):
        self.family = Family(example(), "doc", uses={"own": read(example(), "doc", "thing.owner = user"),
                                                     "in": None, "far": read(example(), "doc", IN_TEAM)})
        self.store = Store(example(), example_rows())

    def add(self, *texts):
        """A chain of kinds with these checks, the last one first in the order."""
        names = []
        for name, text in zip("abcdefgh", texts):
            self.family.add(name, names[-1:], text)
            names.append(name)

    def alike(self, name, text):
        right = self.family.right(name)
        other = read(example(), "doc", text)
        verdict = judge(right, other)
        self.assertTrue(verdict, (name, text))
        self.assertIs(is_certificate(right, other, verdict.certificate()), True)
        for thing, user in pairs_of(self.store, "doc"):
            self.assertEqual(right.admits(self.store, thing, user), other.admits(self.store, thing, user))

    def test_places_of_super(self):
        self.add(PUBLIC, OWNER, "return thing.level == 3 and not super()", "if super():\n    return user.staff",
                 "x = thing.owner\nif x == user:\n    return True\nelse:\n    return super() or False")
        self.alike("a", "thing.public")
        self.alike("b", "thing.public or thing.owner = user")
        self.alike("c", "thing.level = 3 and not (thing.public or thing.owner = user)")
        self.alike("d", "user.staff and thing.level = 3 and not (thing.public or thing.owner = user)")
        self.alike("e", "thing.owner = user or user.staff and thing.level = 3 and not thing.public")

    def test_behind_the_last_check(self):
        self.add(None, "return super()", "return not super() and thing.public", None)
        self.assertEqual([self.family.right(name).weight() for name in "abcd"], [1, 1, 4, 4])
        self.alike("a", "false")
        self.alike("b", "false")
        self.alike("c", "thing.public")
        self.alike("d", "thing.public")
        self.assertEqual(self.family.right("a").walks(), [])
        self.assertTrue(judge(self.family.right("a"), nothing(example(), "doc")))

    def test_one_text_means_different_things(self):
        family = self.family
        family.add("base", (), PUBLIC)
        family.add("left", ("base",), OWNER)
        family.add("right", ("base",), "return super() and user.staff")
        family.add("both", ("left", "right"))
        family.add("other", ("right", "left"))
        self.assertEqual(family.order("both"), ("both", "left", "right", "base"))
        self.alike("left", "thing.public or thing.owner = user")
        self.alike("both", "thing.public and user.staff or thing.owner = user")
        self.alike("other", "(thing.public or thing.owner = user) and user.staff")
        self.assertEqual([family.right(name).weight() for name in family.kinds()], [2, 5, 5, 8, 8])
        self.assertEqual(family.wider(), [("left", "base"), ("both", "right"), ("other", "right")])

    def test_weights_and_walks(self):
        walk = "return any(m.person == user for m in thing.team.members)"
        self.add(walk, f"return user in [p.person for p in user.places] or super() or far(thing)",
                 "for m in thing.team.members:\n    return False\nreturn super()")
        self.assertEqual(self.family.right("a").weight(), 6)
        self.assertEqual(self.family.right("a").walks(), ["member"])
        self.assertEqual(self.family.right("b").weight(), 2 * 3 + (1 + 6) + (1 + 10))
        self.assertEqual(self.family.right("b").walks(), ["member"] * 3)
        self.assertEqual(self.family.right("c").weight(), 2 + 2 + 1 + 24)
        self.assertEqual(self.family.right("c").walks(), ["member"] * 4)
        told = bounds(self.family.right("c"), everything(example(), "doc"))
        self.assertEqual(told["member"], 4)
        used = Question(example(), "doc", "c(thing)", uses={"c": self.family.right("c")})
        self.assertEqual((used.weight(), used.walks()), (30, ["member"] * 4))

    def test_what_the_next_check_compares(self):
        self.add("return thing.level > 4 and thing.level < 6 or thing.team.code in ('a', 'b')",
                 "return super() and thing.public")
        verdict = judge(self.family.right("b"), nothing(example(), "doc"))
        self.assertEqual(verdict.way, "first")
        self.alike("b", "thing.public and (thing.level = 5 or thing.team.code in ('b','a'))")
        with self.assertRaises(TooMany) as caught:
            judge(self.family.right("b"), read(example(), "doc", "thing.team.code in ('c','d','e')"))
        self.assertEqual(caught.exception.what, "words")

    def test_kept_parts_as_with_the_texts_in_their_places(self):
        walk = "any(m.person == user for m in thing.team.members)"
        self.add("return " + walk, "return thing.public or super()")
        one = Check(example(), "doc", "return thing.public or " + walk)
        never_so = nothing(example(), "doc")
        for chance in chances(40):
            store = Store(example(), some_rows(chance, tables_of(example())))
            for thing, user in pairs_of(store, "doc")[:6]:
                self.assertEqual(kept_part(self.family.right("b"), never_so, store, thing, user),
                                 kept_part(one, never_so, store, thing, user))

    def test_wrong_places(self):
        self.family.add("a", (), PUBLIC)
        for text, line, at in (
                ("return super() or super()", 0, 18),
                ("return super()\nreturn thing.public and super()", 1, 24),
                ("return any(super() for m in thing.team.members)", 0, 11),
                ("return all(m.role == 'a' and not super() for m in thing.team.members)", 0, 33),
                ("for m in thing.team.members:\n    if super():\n        return True", 1, 7),
                ("for m in thing.team.members:\n    if thing.public:\n        x = m\n    if super():\n        y = m", 3, 7),
                ("return super() or no(thing)", 0, 18),
                ("return no(thing) or any(super() for m in thing.team.members)", 0, 7),
                ("return super", 0, 12), ("return super(thing)", 0, 13), ("return super.public", 0, 12),
                ("super()", 0, 0), ("x = super()", 0, 4), ("return super() == True", 0, 15)):
            with self.assertRaises(BadCheck) as caught:
                self.family.add("b", ("a",), text)
            self.assertEqual((caught.exception.line, caught.exception.at), (line, at), text)
        with self.assertRaises(BadCheck) as caught:
            Check(example(), "doc", "return super()")
        self.assertEqual((caught.exception.line, caught.exception.at), (0, 7))
        self.assertEqual(self.family.kinds(), ["a"])

    def test_filled(self):
        self.add("return thing.team is None", "return super() or thing.public")
        self.assertTrue(judge(self.family.right("b").filled(), Question(example().filled(), "doc", "thing.public")))


IN_TEAM = "some thing.team.members as m (m.role = 'a' or true and true)"


class DispatchTest(unittest.TestCase):
    def setUp(self):
        tables = [("team", [("flag", "open"), ("word", "kind", True), ("number", "n"), ("word", "other", False)]),
                  ("member", [("link", "team", "team", False, "members"), ("word", "role", True)])]
        self.schema = Schema("team", tables)
        self.family = Family(self.schema, "team")
        self.family.add("plain", (), "return thing.open")
        self.family.add("walked", ("plain",), "return super() or any(m.role == 'plain' for m in thing.members)")

    def test_what_it_admits(self):
        right = self.family.dispatch("kind")
        self.assertEqual(right.weight(), 1 + (3 + 2) + (3 + 1 + 2 + 1 + 4))
        self.assertEqual(right.walks(), ["member"])
        store = Store(self.schema, {
            "team": [(True, "plain", 0, "no"), (True, "walked", 0, "no"), (False, "walked", 0, "plain"),
                     (False, "plain", 0, "no"), (True, "other", 0, "plain"), (True, None, 0, "walked"),
                     (False, "walked", 0, "no")],
            "member": [(2, "plain"), (3, "plain"), (6, "no")]})
        self.assertEqual(right(store, 0).things, (0, 1, 2))
        self.assertEqual(self.family.dispatch("other")(store, 0).things, (4, 5))

    def test_it_stays_when_a_kind_is_added(self):
        right = self.family.dispatch("kind")
        self.family.add("more", (), "return True")
        later = self.family.dispatch("kind")
        self.assertEqual((right.weight(), later.weight()), (17, 17 + 4))
        store = Store(self.schema, {"team": [(False, "more", 0, "no")]})
        self.assertEqual((right.admits(store, 0, 0), later.admits(store, 0, 0)), (False, True))
        self.assertEqual(self.family.right("plain").weight(), 2)

    def test_a_question_that_names_the_kinds(self):
        text = "thing.kind = 'plain' and thing.open or thing.kind = 'walked' and thing.open"
        family = Family(self.schema, "team")
        family.add("plain", (), "return thing.open")
        family.add("walked", ("plain",))
        right = family.dispatch("kind")
        self.assertEqual(right.weight(), 11)
        question = Question(self.schema, "team", text)
        self.assertTrue(judge(right, question))
        self.assertTrue(judge(question, right))
        self.assertTrue(judge(right, Question(self.schema, "team", "thing.kind in ('walked','plain') and thing.open")))
        other = Question(self.schema, "team", "thing.kind = 'plain' and thing.open or thing.open")
        verdict = judge(right, other)
        self.assertEqual((len(verdict), verdict.way), (1, "second"))
        self.assertIs(is_certificate(right, other, verdict.certificate()), True)
        guarded = Family(self.schema, "team")
        guarded.add("a", (), "return thing.other != thing.kind")
        self.assertTrue(judge(guarded.dispatch("kind"),
                              Question(self.schema, "team", "thing.kind = 'a' and thing.other != 'a'")))
        self.assertFalse(judge(guarded.right("a"), Question(self.schema, "team", "thing.other != thing.kind")))

    def test_kinds_are_written_words(self):
        family = Family(self.schema, "team")
        for name in ("a", "b", "c", "d"):
            family.add(name)
        self.assertTrue(never(family.dispatch("kind")))
        self.assertTrue(judge(family.dispatch("kind"), Question(self.schema, "team", "thing.kind = 'a' and false")))
        with self.assertRaises(TooMany) as caught:
            judge(family.dispatch("kind"), Question(self.schema, "team", "thing.kind = 'e' and false"))
        self.assertEqual(caught.exception.what, "words")
        family.add("e")
        with self.assertRaises(TooMany) as caught:
            never(family.dispatch("kind"))
        self.assertEqual(caught.exception.what, "words")
        # None, the kinds, and a new word.
        for count, expected in ((6, False), (7, True), (8, False)):
            tree = ("word", 0, "kind", (False,) * count)
            self.assertIs(is_certificate(family.dispatch("kind"), nothing(self.schema, "team"),
                                         ("alike", ("same", (tree, tree)))), expected)

    def test_what_the_kinds_compare(self):
        family = Family(self.schema, "team")
        family.add("a", (), "return thing.n > 4 and thing.n < 6")
        family.add("b", (), "return thing.other in ('x', 'y') and thing.other != 'y'")
        self.assertTrue(judge(family.dispatch("kind"), Question(
            self.schema, "team", "thing.kind = 'a' and thing.n = 5 or thing.kind = 'b' and thing.other = 'x'")))
        low = Family(self.schema, "team")
        low.add("a", (), "return thing.n == 5")
        verdict = judge(low.dispatch("kind"), nothing(self.schema, "team"))
        self.assertEqual((verdict.way, verdict.certificate()[1].value("team", 0, "n")), ("first", 5))
        words = Family(self.schema, "team")
        words.add("a", (), "return thing.other in ('p', 'q', 'r', 's')")
        with self.assertRaises(TooMany) as caught:
            never(words.dispatch("kind"))
        self.assertEqual(caught.exception.what, "words")

    def test_columns(self):
        for wrong in (*NO_KINDS, "open", "n", "members", "team", "thing", "role", self.family):
            with self.assertRaises(NoName) as caught:
                self.family.dispatch(wrong)
            self.assertIs(caught.exception.name, wrong)

    def test_too_heavy(self):
        family = Family(self.schema, "team")
        self.assertEqual(family.dispatch("kind").weight(), 1)
        family.add("a", (), "return " + " or ".join(["True"] * 90))
        self.assertEqual(family.dispatch("kind").weight(), 94)
        family.add("b", (), "return True or True or True")
        self.assertEqual(family.dispatch("kind").weight(), 100)
        family.add("c")
        with self.assertRaises(NoName):
            family.dispatch("n")
        with self.assertRaises(TooMany) as caught:
            family.dispatch("kind")
        self.assertEqual(caught.exception.what, "weight")

    def test_wider(self):
        family = Family(example(), "doc")
        family.add("a", (), PUBLIC)
        family.add("b", ("a",), OWNER)
        family.add("c", (), "return thing.level == 3")
        family.add("d", ("c", "b"), "return super() and thing.public")
        family.add("e", ["b", "a"], "return True")
        self.assertEqual(family.wider(), [("b", "a"), ("e", "b"), ("e", "a")])
        family.add("f", ("c", "b"))
        self.assertEqual(family.wider(), [("b", "a"), ("e", "b"), ("e", "a"), ("f", "b")])
        family.add("g", ("e",), "return " + " or ".join(["thing.public"] * 12))
        with self.assertRaises(TooMany) as caught:
            family.wider()
        self.assertEqual(caught.exception.what, "weight")
        family = Family(example(), "doc")
        family.add("a", (), "return thing.team.code in ('a','b','c')")
        family.add("b", ("a",), "return thing.team.code in ('d','e')")
        with self.assertRaises(TooMany) as caught:
            family.wider()
        self.assertEqual(caught.exception.what, "words")
        self.assertEqual(Family(example(), "doc").wider(), [])

    def test_wider_as_judged(self):
        for name, text in (("a", "return thing.team.code == user.team.code"), ("b", TEAM)):
            family = Family(example(), "doc")
            family.add("base", (), text.replace("super()", "True"))
            family.add(name, ("base",), "return super() or thing.team is None and user.team is None")
            expected = not family.right(name) <= family.right("base")
            self.assertEqual(family.wider(), [(name, "base")] if expected else [])
