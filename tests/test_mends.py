"""Mends: the texts that they make, and which of them make two spellings alike."""

import itertools
import unittest

from listandpage.checks import Check
from listandpage.errors import BadMend, Mismatch, TooMany
from listandpage.judging import Verdict, judge
from listandpage.mends import Mending, least_mends, mended
from listandpage.questions import Question
from listandpage.rights import everything
from listandpage.schemas import Schema
from listandpage.stores import Store
from tests.meanings import pairs_of, some_spelled, value_of
from tests.samples import EXAMPLE_TABLES, NO_TEXTS, chances, deep, example, loose, some_rows, some_schema, tables_of
from tests.spelled import texts
from tests.test_trees import read

TESTS = ("flag", "lacks", "word", "words", "number", "paths", "list", "loop")


class Mender:
    """Mends a spelled tree as point 32 says."""

    def __init__(self, language, mends):
        self.language = language
        self.mends = mends
        self.count = 0

    def tree(self, tree):
        kind = tree[0]
        if kind in TESTS:
            return self.test(tree)
        if kind in ("or", "and"):
            return (kind, [self.tree(part) for part in tree[1]])
        if kind in ("not", "round"):
            return (kind, self.tree(tree[1]))
        if kind in ("some", "no", "any", "all"):
            return tree[:3] + (self.tree(tree[3]),)
        return tree

    def test(self, test):
        at = self.count
        self.count += 1
        made = test
        if ("turn", at) in self.mends:
            made = ("round", ("not", ("round", test)))
        if ("guard", at) in self.mends:
            paths = [test[1]] + ([test[3]] if test[0] == "paths" else [])
            if self.language == "question":
                guards = [("not", ("lacks", path, False)) for path in paths]
            else:
                guards = [("lacks", path, True) for path in paths]
            made = ("round", ("and", [made] + guards))
        return made

    def block(self, block):
        found = []
        for statement in block:
            if statement[0] == "return":
                found.append(("return", self.tree(statement[1])))
            elif statement[0] == "if":
                test = self.tree(statement[1])
                inner = self.block(statement[2])
                found.append(("if", test, inner, None if statement[3] is None else self.block(statement[3])))
            elif statement[0] == "for":
                found.append(statement[:3] + (self.block(statement[3]),))
            else:
                found.append(statement)
        return found

    def mend(self, tree):
        return self.tree(tree) if self.language == "question" else self.block(tree)


class MendedTest(unittest.TestCase):
    def check(self, text, mends, expected, schema=None, table="doc"):
        right = read(schema or example(), table, text)
        given = list(mends)
        made = mended(right, mends)
        self.assertEqual((made.text, str(made)), (expected, expected))
        self.assertIs(type(made), type(right))
        self.assertEqual(mends, given)
        self.assertEqual((right.text, made.table, made.schema), (text, table, schema or example()))
        return made

    def test_questions(self):
        text = "thing.owner=user or some thing.team.members as m(m.role in('a','b'))"
        owner = "thing.owner = user"
        role = "m.role in ( 'a' , 'b' )"
        walk = " or some thing.team.members as m ( "
        self.check(text, [], owner + walk + role + " )")
        self.check(text, [("turn", 0)], f"( not ( {owner} ) )" + walk + role + " )")
        guarded = f"( {owner} and not thing.owner lacks and not user lacks )"
        self.check(text, [("guard", 0)], guarded + walk + role + " )")
        both = f"( ( not ( {role} ) ) and not m.role lacks )"
        made = self.check(text, [("turn", 1), ("guard", 0), ("guard", 1)], guarded + walk + both + " )")
        self.assertEqual(made.tests(), [owner, "thing.owner lacks", "user lacks", role, "m.role lacks"])
        self.assertEqual(made.weight(), 2 + 2 + 1 + 2 + 2 * (2 + 2))
        self.check("not thing.level<3 and thing.public", [("guard", 1), ("turn", 0)],
                   "not ( not ( thing.level < 3 ) ) and ( thing.public and not thing.public lacks )")
        self.check("thing.team lacks", [("guard", 0), ("turn", 0)],
                   "( ( not ( thing.team lacks ) ) and not thing.team lacks )")
        self.check("user not in thing.team.members.person", [("guard", 0)],
                   "( user not in thing.team.members.person and not user lacks )")
        self.check("true", [], "true")

    def test_checks(self):
        text = "x=thing.owner\nif x.team==thing.team:\n    return any(m.person==x for m in thing.team.members)" \
               "\nelse :\n    return thing.public or user in[k.person for k in x.team.members]"
        first = "x = thing.owner\nif {} :\n    return any ( {} for m in thing.team.members )\nelse :\n    return {} or {}"
        tests = ["x.team == thing.team", "m.person == x", "thing.public",
                 "user in [ k.person for k in x.team.members ]"]
        self.check(text, [], first.format(*tests))
        guards = ["( x.team == thing.team and x.team is not None and thing.team is not None )",
                  "( m.person == x and m.person is not None and x is not None )",
                  "( thing.public and thing.public is not None )",
                  "( user in [ k.person for k in x.team.members ] and user is not None )"]
        self.check(text, [("guard", index) for index in range(4)], first.format(*guards))
        self.check(text, [("turn", 3), ("turn", 1)],
                   first.format(tests[0], f"( not ( {tests[1]} ) )", tests[2], f"( not ( {tests[3]} ) )"))
        self.check(text, [("turn", 3), ("guard", 3)], first.format(
            *tests[:3], f"( ( not ( {tests[3]} ) ) and user is not None )"))
        self.check("for m in thing.team.members:\n    return True\nreturn False", [],
                   "for m in thing.team.members :\n    return True\nreturn False")

    def test_used_rights_are_kept(self):
        old = {"t": everything(example(), "team")}
        question = Question(example(), "doc", "t(thing.team) and thing.public", uses=old)
        check = Check(example(), "doc", "return t(thing.team) and thing.public", uses=old)
        old["t"] = None
        for right, text in ((question, "t ( thing.team ) and ( not ( thing.public ) )"),
                            (check, "return t ( thing.team ) and ( not ( thing.public ) )")):
            made = mended(right, [("turn", 0)])
            self.assertEqual(made.text, text)
            again = mended(made, [("turn", 0)])
            self.assertTrue(judge(again, right))

    def test_random_texts(self):
        for chance in chances(400):
            schema = some_schema(chance)
            language = chance.choice(["question", "check"])
            uses = {name: some_spelled(chance, schema, chance.choice(["question", "check"]), 3) for name in "ab"}
            made = some_spelled(chance, schema, language, chance.choice([3, 8]), uses)
            mends = [(kind, at) for kind in ("turn", "guard") for at in range(len(made.right.tests()))]
            mends = chance.sample(mends, chance.randint(0, min(4, len(mends))))
            tree = Mender(language, mends).mend(made.tree)
            other = mended(made.right, mends)
            self.assertEqual(other.text, texts(tree, language)[1])
            store = Store(schema, some_rows(chance, tables_of(schema)))

            def asked(name):
                return lambda row, same: uses[name].value(store, row, same) is True

            meant = {name: asked(name) for name in uses}
            for thing, user in pairs_of(store, made.table)[:6]:
                expected = value_of(tree, language, made.table, store, thing, user, meant)
                self.assertIs(other.admits(store, thing, user), expected is True)

    def test_bad_mends(self):
        for right in (read(example(), "doc", "thing.public and thing.level = 3"),
                      read(example(), "doc", "return thing.public and thing.level == 3")):
            good = [("turn", 0), ("guard", 0), ("guard", 1), ("turn", 1)]
            self.assertEqual(len(mended(right, good).tests()), 4)
            for wrong in (*NO_TEXTS, ("turn", 2), ("turn", -1), ("turn", True), ("turn", None), ("turn", "0"), ("no", 0),
                          (None, 0), (["turn"], 0), ("turn",), ("turn", 0, 0), ["turn", 0], "turn", ("turn", 10 ** 39),
                          (0, "turn", 0), (("turn", 0),), ("turn", [0]), right, ("turn", right), (right, 0), *good[:2]):
                for count in range(5):
                    if wrong in good and wrong not in good[:count]:
                        continue
                    with self.assertRaises(BadMend) as caught:
                        mended(right, good[:count] + [wrong, None])
                    self.assertEqual(caught.exception.at, count)

    def test_too_heavy(self):
        text = " or ".join(["thing.public"] * 49)
        right = Question(example(), "doc", text + " or true and false")
        self.assertEqual((right.weight(), mended(right, [("turn", 48)]).weight()), (100, 100))
        with self.assertRaises(TooMany) as caught:
            mended(right, [("guard", 48)])
        self.assertEqual(caught.exception.what, "weight")
        right = Question(example(), "doc", text)
        self.assertEqual(mended(right, [("guard", 48)]).weight(), 100)
        with self.assertRaises(BadMend):
            mended(right, [("guard", 48), ("guard", 1), ("guard", 49)])

    def test_by_name(self):
        right = read(example(), "doc", "thing.public")
        self.assertEqual(mended(mends=[("turn", 0)], right=right).text, "( not ( thing.public ) )")
        self.assertTrue(least_mends(pool=[], two=right, one=right))


class LeastMendsTest(unittest.TestCase):
    def sets(self, one, two, pool, least, lesser, table="doc"):
        rights = [read(example(), table, text) for text in (one, two)]
        given = list(pool)
        mending = least_mends(*rights, pool)
        self.assertIsInstance(mending, Mending)
        self.assertEqual((mending.least, bool(mending)), (least, bool(least)))
        self.assertEqual([chosen for chosen, _ in mending.lesser], lesser)
        self.assertIsInstance(mending.lesser, tuple)
        for chosen, verdict in mending.lesser:
            self.assertIsInstance(verdict, Verdict)
            self.assertFalse(verdict)
        self.assertEqual(pool, given)
        return mending

    def test_alike_already(self):
        self.sets("thing.public", "return thing.public", [], ((),), [])
        self.sets("thing.public", "return thing.public", [(0, "turn", 0), (1, "turn", 0)], ((),), [])

    def test_guards(self):
        one, two = "thing.team = user.team", "return thing.team == user.team"
        self.sets(one, two, [], (), [()])
        self.sets(one, two, [(1, "guard", 0)], ((0,),), [()])
        mending = self.sets(one, two, [(1, "turn", 0), (0, "guard", 0), (1, "guard", 0)], ((2,),), [()])
        self.assertEqual(mending.lesser[0][1].certificate(), judge(read(example(), "doc", one),
                                                                  read(example(), "doc", two)).certificate())
        self.sets(one, two, [(1, "turn", 0), (0, "guard", 0)], (), [(), (0,), (1,), (0, 1)])

    def test_several_least_sets(self):
        one, two = "thing.public", "return not thing.public"
        self.sets(one, two, [(0, "turn", 0), (1, "turn", 0)], ((0,), (1,)), [()])
        self.sets(one, two, [(1, "guard", 0), (1, "turn", 0), (0, "turn", 0)], ((1,), (2,)), [()])
        self.sets("thing.public and thing.level = 3", "return thing.level != 3 and not thing.public",
                  [(0, "turn", 1), (1, "turn", 0), (1, "turn", 1), (0, "turn", 0)],
                  ((0, 2), (0, 3), (1, 2), (1, 3)),
                  [(), (0,), (1,), (2,), (3,)])

    def test_a_denied_test_is_turned(self):
        # What is unknown stays unknown where it is turned.
        self.sets("thing.team.code = 'a'", "return thing.team.code != 'a'",
                  [(1, "turn", 0), (0, "turn", 0), (1, "guard", 0)], ((0,),), [()])
        self.sets("thing.team.code = 'a'", "return thing.team.code != 'a'", [(0, "turn", 0), (1, "guard", 0)],
                  ((0, 1),), [(), (0,), (1,)])

    def test_all_subsets(self):
        found = {}
        for chance in chances(250):
            schema = chance.choice([example(), loose(), deep()])
            table = chance.choice(schema.tables)
            made = [some_spelled(chance, schema, chance.choice(["question", "check"]), chance.choice([2, 3]), {}, table)
                    for _ in range(2)]
            if chance.random() < 0.5:
                made[1] = made[0]
            rights = [each.right for each in made]
            pool = [(side, kind, at) for side in (0, 1) for kind in ("turn", "guard")
                    for at in range(len(rights[side].tests()))]
            pool = chance.sample(pool, min(len(pool), chance.randint(0, 4)))
            broken = chance.choice([0, 0, 1, 2])
            rights[0] = mended(rights[0], [mend[1:] for mend in pool if mend[0] == 0 and mend[1] == "turn"][:broken])
            pool = [entry for entry in pool if entry[0] == 1 or entry[2] < len(rights[0].tests())]
            try:
                mending = least_mends(*rights, pool)
            except TooMany:
                continue
            sizes = {}
            for size in range(len(pool) + 1):
                for chosen in itertools.combinations(range(len(pool)), size):
                    sides = [mended(right, [pool[at][1:] for at in chosen if pool[at][0] == side])
                             for side, right in enumerate(rights)]
                    if judge(*sides):
                        sizes.setdefault(size, []).append(chosen)
            least = tuple(sizes[min(sizes)]) if sizes else ()
            self.assertEqual((mending.least, bool(mending)), (least, bool(least)))
            limit = min(sizes) if sizes else len(pool) + 1
            lesser = [chosen for size in range(limit) for chosen in itertools.combinations(range(len(pool)), size)]
            self.assertEqual([chosen for chosen, _ in mending.lesser], lesser)
            key = min(sizes) if sizes else None
            found[key] = found.get(key, 0) + 1
        self.assertGreater(len(found), 2)

    def test_errors_in_order(self):
        heavy = read(example(), "doc", " or ".join(["thing.public"] * 12))
        one = read(example(), "doc", "thing.team.code in ('a','b','c')")
        two = read(example(), "doc", "return thing.team.code not in ('d','e') and thing.public")
        for other in (read(example(), "team", "true"), read(Schema("team", EXAMPLE_TABLES), "doc", "true")):
            with self.assertRaises(Mismatch) as caught:
                least_mends(heavy, other, [None] * 5)
            self.assertEqual(caught.exception.at, 1)
        with self.assertRaises(BadMend) as caught:
            least_mends(heavy, two, [None] * 5)
        self.assertEqual(caught.exception.at, -1)
        for wrong in (*NO_TEXTS, (False, "turn", 0), (True, "guard", 1), (2, "turn", 0), (-1, "turn", 0), ("turn", 0),
                      (0, "turn", 1), (1, "turn", 2), (1, "turn", True), (0, "no", 0), [0, "turn", 0], (0, "turn", 0, 0),
                      (0, ("turn", 0)), ("0", "turn", 0), (0.0, "turn", 0)[:2], (1, "guard", 1)):
            with self.assertRaises(BadMend) as caught:
                least_mends(one, two, [(0, "turn", 0), (1, "guard", 1), wrong, None])
            self.assertEqual(caught.exception.at, 2)
        with self.assertRaises(BadMend):
            least_mends(heavy, two, [(0, "turn", 12)])
        with self.assertRaises(TooMany) as caught:
            least_mends(heavy, two, [])
        self.assertEqual(caught.exception.what, "weight")
        with self.assertRaises(TooMany) as caught:
            least_mends(one, two, [])
        self.assertEqual(caught.exception.what, "words")
        light = read(example(), "doc", " or ".join(["thing.public"] * 10))
        public = read(example(), "doc", "thing.public")
        self.assertEqual(least_mends(light, public, [(0, "turn", 0)]).least, ((),))
        self.assertEqual(least_mends(light, public, [(0, "guard", 0)]).least, ((),))
        with self.assertRaises(TooMany) as caught:
            least_mends(light, public, [(0, "turn", 0), (0, "guard", 0), (1, "guard", 0)])
        self.assertEqual(caught.exception.what, "weight")

    def test_a_pool_may_be_changed(self):
        right, other = read(example(), "doc", "thing.public"), read(example(), "doc", "not thing.public")
        pool = [(0, "turn", 0)]
        mending = least_mends(right, other, pool)
        pool.clear()
        self.assertEqual(mending.least, ((0,),))
