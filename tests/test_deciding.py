"""The signs `<=`, `<`, `==` and `!=` between rights."""

import time
import unittest

from listandpage.checks import Check
from listandpage.facts import Facts
from listandpage.deciding import find_escape
from listandpage.errors import ListandpageError, Mismatch, TooMany
from listandpage.questions import Question
from listandpage.rights import all_of, any_of, everything, nothing
from listandpage.schemas import Schema
from listandpage.stores import Store
from tests.meanings import pairs_of, some_spelled
from tests.samples import chances, deep, example, loose, some_schema, tables_of

WORDS = ("a", "red", "user", "zz", "other", "new")
NUMBERS = (-1, 0, 1, 2, 3, 4, 5, 6, 10 ** 12 - 2, 10 ** 12 - 1, 10 ** 12)


def small_store(chance, schema):
    """A store with few rows and with values that tests may tell apart."""
    rows = {}
    for table in schema.tables:
        made = []
        for _ in range(chance.choice([1, 1, 2, 2, 3])):
            row = [small_value(chance, column, rows) for column in schema.columns(table)]
            made.append(tuple(row))
        rows[table] = made
    return Store(schema, rows)


def small_value(chance, column, rows):
    if column[0] == "flag":
        return chance.random() < 0.5
    if column[0] == "number":
        return chance.choice(NUMBERS)
    optional = column[2] if column[0] == "word" else column[3]
    if optional and chance.random() < 0.3:
        return None
    return chance.choice(WORDS) if column[0] == "word" else chance.randrange(len(rows[column[2]]))


class Filling:
    """The store, the thing and the user that facts tell of; what was not asked is filled in."""

    def __init__(self, schema, facts):
        self.schema = schema
        self.facts = facts
        self.spare = {}
        self.numbers = {}
        tables = list(facts.named)
        for row, table in enumerate(tables):
            self.numbers[row] = tables[:row].count(table)
        rows = {table: [] for table in schema.tables}
        for row, table in enumerate(tables):
            rows[table].append(self.row(row, table))
        # Rows that nothing was asked of stand behind the others.
        for table in reversed(schema.tables):
            if table in self.spare:
                rows[table].append(self.row(None, table))
        self.store = Store(schema, rows)
        self.thing, self.user = [self.numbers[row] for row in facts.start]

    def row(self, row, table):
        return tuple(self.value(row, place, column) for place, column in enumerate(self.schema.columns(table)))

    def value(self, row, place, column):
        known = self.facts.cells.get((row, place), "unknown")
        if known != "unknown" or (row, place) in self.facts.cells:
            if column[0] == "number":
                return known // Facts.SCALE
            return self.numbers[known] if column[0] == "link" and known is not None else known
        if column[0] == "flag":
            return False
        if column[0] == "number":
            return 0
        if column[2] is True or (column[0] == "link" and column[3]):
            return None
        return "zzz" if column[0] == "word" else self.spare_row(column[2])

    def spare_row(self, table):
        """The row of a table that nothing was asked of."""
        if table not in self.spare:
            self.spare[table] = list(self.facts.named).count(table)
        return self.spare[table]


def escape(one, two):
    """A store, a thing and a user by which the first right admits and the second does not, None without any."""
    facts = find_escape(one.schema, one.table, one.body, two.body)
    if facts is None:
        return None
    filling = Filling(one.schema, facts)
    return filling.store, filling.thing, filling.user


def question(text, table="doc", schema=None, **uses):
    return Question(schema or example(), table, text, uses=uses)


def check(*lines, table="doc", schema=None, **uses):
    return Check(schema or example(), table, "\n".join(lines), uses=uses)


class SpellingsTest(unittest.TestCase):
    def alike(self, one, two):
        for left, right in ((one, two), (two, one)):
            self.assertIs(left == right, True, f"{left}\n{right}")
            self.assertIs(left != right, False)
            self.assertIs(left <= right, True)
            self.assertIs(left < right, False)

    def less(self, one, two):
        """The first admits less than the second."""
        self.assertEqual((one <= two, one < two, one == two, one != two), (True, True, False, True), f"{one}\n{two}")
        self.assertEqual((two <= one, two < one, two == one, two != one), (False, False, False, True), f"{one}\n{two}")

    def apart(self, one, two):
        """Each admits something that the other one does not."""
        for left, right in ((one, two), (two, one)):
            told = (left <= right, left < right, left == right, left != right)
            self.assertEqual(told, (False, False, False, True), f"{left}\n{right}")

    def test_the_example(self):
        self.alike(question("thing.owner = user or some thing.team.members as m (m.person = user)"),
                   check("if thing.owner == user:", "    return True", "for m in thing.team.members:",
                         "    if m.person == user:", "        return True"))

    def test_guards(self):
        self.less(question("thing.team = user.team"), check("return thing.team == user.team"))
        self.alike(question("thing.team = user.team"),
                   check("return thing.team is not None and thing.team == user.team"))
        self.alike(question("thing.team = user.team or thing.team lacks and user.team lacks"),
                   check("return thing.team == user.team"))
        self.less(question("not user.team.code = 'a'"), check("return not user.team.code == 'a'"))
        self.alike(question("user.team.code != 'a'"),
                   check("x = user.team", "return x.code != 'a' and x.code is not None"))
        self.alike(question("user in thing.team.members.person"),
                   check("return user in [m.person for m in thing.team.members]"))
        self.less(question("user not in thing.team.members.person"),
                  check("return user not in [m.person for m in thing.team.members]"))
        self.alike(question("user not in thing.team.members.person"),
                   check("return all(m.person is not None and m.person != user for m in thing.team.members)"))
        self.less(question("user.team in thing.owner.places.team"),
                  question("user.team in thing.owner.places.team or thing.public"))

    def test_words(self):
        code = "user.team.code"
        written = question(f"{code} in ('a', 'b')")
        self.alike(written, question(f"{code} = 'b' or {code} = 'a'"))
        self.less(question(f"{code} = 'a'"), written)
        self.less(written, question(f"not {code} lacks"))
        self.less(written, question(f"{code} != 'c'"))
        self.less(question(f"{code} not in ('a', 'b')"), check(f"return {code} not in ('a', 'b')"))
        self.apart(written, question(f"{code} lacks"))
        self.apart(written, question(f"{code} != 'a'"))
        self.alike(question(f"not {code} lacks"), question(f"{code} = 'a' or {code} != 'a'"))
        self.alike(question(f"{code} = 'a' and {code} = 'b'"), nothing(example(), "doc"))

    def test_words_that_are_compared_with_one_another(self):
        two = deep("person")
        three = question("thing.nick = user.nick and user.nick = thing.org.name", "person", two)
        self.alike(three, question("thing.org.name = thing.nick and thing.org.name = user.nick", "person", two))
        self.alike(question("thing.nick = 'a' and thing.nick = user.nick", "person", two),
                   question("user.nick = 'a' and thing.nick = 'a'", "person", two))
        self.apart(question("thing.nick != user.nick and user.nick != thing.org.name", "person", two),
                   question("thing.nick != user.nick and thing.org.name != thing.nick", "person", two))
        # Three words that differ, of which none need be written.
        apart = "thing.nick != user.nick and user.nick != thing.org.name and thing.nick != thing.org.name"
        self.assertFalse(question(apart, "person", two) <= question("thing.nick = 'a'", "person", two))

    def test_words_that_are_compared_through_others(self):
        four = Schema("a", [("a", [("word", name, True) for name in "pqrs"])])
        chain = "thing.p = thing.q and thing.r = thing.s and thing.q = thing.r"
        self.assertFalse(question(chain + " and thing.s = 'a'", "a", four) == nothing(four, "a"))
        self.assertTrue(question(chain + " and thing.s = 'a'", "a", four) <= question("thing.p = 'a'", "a", four))
        self.assertFalse(question(chain, "a", four) <= question("thing.p = 'a'", "a", four))
        self.alike(question(chain + " and thing.s != thing.p", "a", four), nothing(four, "a"))

    def test_words_in_lists(self):
        within = "thing.w in [m.w for m in user.bs]"
        one = check(f"return {within} and thing.w == 'a'", table="b", schema=loose())
        self.less(one, check(f"return {within} and thing.w is not None", table="b", schema=loose()))
        self.less(one, check("return any(m.w == 'a' for m in user.bs)", table="b", schema=loose()))
        self.less(question("thing.w in user.bs.w and thing.w = 'a'", "b", loose()),
                  question("some user.bs as m (m.w = 'a')", "b", loose()))
        # Words that differ, none of which is written.
        filled = "any(True for n in user.bs) and all(o.w is not None for o in user.bs) and thing.w is not None"
        apart = check("return thing.w not in [m.w for m in user.bs] and " + filled, table="b", schema=loose())
        self.less(nothing(loose(), "b"), apart)
        self.less(nothing(loose(), "b"), question("some user.bs as n (not n.w lacks) and thing.w not in user.bs.w "
                                                  "and not thing.w lacks", "b", loose()))

    def test_numbers(self):
        level = "thing.level"
        self.alike(question(f"{level} > 3"), question(f"{level} >= 4"))
        self.alike(question(f"{level} > 3 and {level} < 5"), check(f"return {level} == 4"))
        self.alike(question(f"{level} > 3 and {level} < 4"), nothing(example(), "doc"))
        self.less(nothing(example(), "doc"), question(f"{level} > 3 and {level} < 5"))
        self.less(question(f"{level} > 4"), question(f"{level} >= 4"))
        self.alike(question(f"{level} != 0"), question(f"{level} < 0 or {level} > 0"))
        self.alike(question(f"{level} >= 0 or {level} < 0"), everything(example(), "doc"))
        self.apart(question(f"{level} <= 7"), question(f"{level} >= 7"))
        self.less(question(f"{level} = 999999999999"), question(f"{level} > 999999999998"))
        self.less(question(f"{level} > 999999999999"), question(f"{level} > 999999999998"))

    def test_walks(self):
        members = "thing.team.members"
        self.alike(question(f"some {members} as m (m.role = 'a')"), check(f"return any(m.role == 'a' for m in {members})"))
        self.alike(question(f"no {members} as m (m.role != 'a')"), check(f"return all(m.role == 'a' for m in {members})"))
        self.alike(question(f"user.team in {members}.team"),
                   question(f"some {members} as m (m.team = user.team)"))
        self.alike(check(f"for m in {members}:", "    if m.role == 'a':", "        return False", "return True"),
                   question(f"no {members} as m (m.role = 'a')"))
        self.less(question(f"some {members} as m (m.role = 'a' and m.person = user)"),
                  question(f"some {members} as m (m.role = 'a') and some {members} as n (n.person = user)"))
        self.less(question(f"some {members} as m (true)"), question("not thing.team lacks"))
        self.alike(check(f"for m in {members}:", "    x = m.person", "return thing.public"), question("thing.public"))
        self.alike(question(f"some {members} as m (m.team = thing.team)"), question(f"some {members} as m (true)"))

    def test_two_lists_of_one_table(self):
        one = question("some thing.bs as m (m.y = thing)", "a", loose())
        self.alike(one, question("some thing.cs as m (m.x = thing)", "a", loose()))
        self.alike(one, Question(loose(), "a", "one(thing) and one(thing)", uses={"one": one}))
        self.apart(question("some thing.bs as m (true)", "a", loose()), question("some thing.cs as m (true)", "a", loose()))
        self.alike(question("thing in user.bs.y", "a", loose()), question("user in thing.cs.x", "a", loose()))

    def test_the_thing_may_be_the_user(self):
        same = Question(loose(), "a", "thing = user")
        self.assertFalse(same == nothing(loose(), "a"))
        self.assertFalse(same == everything(loose(), "a"))
        self.assertTrue(Question(loose(), "a", "thing = user and thing.f") <= Question(loose(), "a", "user.f"))
        self.assertFalse(Question(loose(), "a", "thing.f") <= Question(loose(), "a", "user.f"))
        self.assertTrue(Question(loose(), "a", "thing != user") == ~same)
        self.assertFalse(Question(example(), "person", "thing.staff and not user.staff") == nothing(example(), "person"))

    def test_used_rights(self):
        mate = question("thing.team = user.team", "person")
        self.alike(question("mate(thing.owner)", mate=mate), question("thing.owner.team = user.team"))
        self.less(question("not mate(thing.owner) and false", mate=mate), question("not mate(thing.owner)", mate=mate))
        self.alike(question("not mate(thing.owner)", mate=mate), question("not thing.owner.team = user.team") |
                   question("thing.owner.team lacks or user.team lacks"))
        self.alike(check("return not mate(thing.owner)", mate=mate), question("not mate(thing.owner)", mate=mate))
        teams = everything(example(), "team")
        self.alike(question("t(thing.team)", t=teams), question("not thing.team lacks"))
        self.alike(check("return not t(thing.team)", t=teams), question("thing.team lacks"))
        self.alike(question("not t(thing.team)", t=teams), nothing(example(), "doc"))

    def test_within_lists_and_tuples(self):
        one, two = question("thing.level > 3"), check("return thing.level >= 4")
        self.assertTrue([one, 1] == [two, 1])
        self.assertTrue((one,) == (two,))
        self.assertFalse([one] == [question("thing.level > 4")])
        self.assertIn(one, [nothing(example(), "doc"), two])


class LawsTest(unittest.TestCase):
    """Laws for random rights, and random pairs against stores."""

    def rights(self, chance, schema, table, most):
        """Two random rights that are light enough."""
        while True:
            made = [some_spelled(chance, schema, chance.choice(["question", "check"]), chance.randint(1, 4), table=table)
                    for _ in range(2)]
            if sum(each.weight for each in made) <= most:
                return [each.right for each in made]

    def test_laws(self):
        for chance in chances(150):
            schema = some_schema(chance)
            table = chance.choice(schema.tables)
            a, b = self.rights(chance, schema, table, 10)
            self.assertTrue(a & b <= a)
            self.assertTrue(a <= a | b)
            self.assertTrue(a - b <= a)
            self.assertTrue(a == a)
            self.assertFalse(a != a)
            self.assertFalse(a < a)
            self.assertTrue(~~a == a)
            self.assertTrue(nothing(schema, table) <= a <= everything(schema, table))
            self.assertTrue(any_of(a) == a == all_of(a))
            if 2 * (a.weight() + b.weight()) + 5 <= 24:
                self.assertTrue(a - b == a & ~b)
                self.assertTrue(~(a | b) == ~b & ~a)
                self.assertTrue(any_of(a, b) == b | a)
                self.assertTrue(all_of(a, b) == b & a)

    def test_random_pairs(self):
        found = {True: 0, False: 0}
        for chance in chances(400):
            schema = some_schema(chance)
            table = chance.choice(schema.tables)
            a, b = self.rights(chance, schema, table, 24)
            try:
                told = a <= b
            except TooMany as error:
                self.assertEqual(error.what, "words")
                continue
            found[told] += 1
            self.assertEqual(a < b, told and not b <= a)
            self.assertEqual(a == b, told and b <= a)
            if not told:
                store, thing, user = escape(a, b)
                self.assertTrue(a.admits(store, thing, user))
                self.assertFalse(b.admits(store, thing, user))
                continue
            for _ in range(25):
                store = small_store(chance, schema)
                for pair in pairs_of(store, table):
                    self.assertTrue(b.admits(store, *pair) or not a.admits(store, *pair))
        self.assertGreater(min(found.values()), 50)

    def test_spelled_another_way(self):
        for chance in chances(200):
            schema = some_schema(chance)
            table = chance.choice(schema.tables)
            a, b = self.rights(chance, schema, table, 11)
            for one, two in ((a | b, b | a), (a & b, b & a), (a | (a & b), a), ((a | b) & a, a), (~a, nothing(schema, table) | ~a)):
                if one.weight() + two.weight() <= 24:
                    self.assertTrue(one == two)
                    self.assertIs(escape(one, two), None)


class LimitsTest(unittest.TestCase):
    SIGNS = (lambda a, b: a <= b, lambda a, b: a < b, lambda a, b: a == b, lambda a, b: a != b)

    def too_many(self, one, two, what):
        for sign in LimitsTest.SIGNS:
            with self.assertRaises(TooMany) as caught:
                sign(one, two)
            self.assertEqual(caught.exception.what, what)
            self.assertIsInstance(caught.exception, ListandpageError)

    def test_weights(self):
        thirteen = question(" and ".join(["true"] * 13))
        twelve = question(" and ".join(["true"] * 12))
        eleven = question(" and ".join(["true"] * 11))
        self.too_many(thirteen, twelve, "weight")
        self.too_many(twelve, thirteen, "weight")
        self.too_many(thirteen, thirteen, "weight")
        self.too_many(question(" and ".join(["true"] * 24)), nothing(example(), "doc"), "weight")
        self.assertTrue(twelve == twelve)
        self.assertTrue(thirteen == eleven)
        self.assertTrue(~eleven == nothing(example(), "doc"))
        self.too_many(~twelve, twelve, "weight")

    def test_words(self):
        four = question("user.team.code in ('a', 'b', 'a', 'c', 'd', 'd')")
        five = question("user.team.code in ('a', 'b', 'c', 'd', 'e')")
        other = question("user.team.code = 'e'")
        self.assertTrue(four <= four)
        self.assertTrue(question("user.team.code = 'd'") < four)
        self.too_many(four, other, "words")
        self.too_many(other, four, "words")
        self.too_many(five, nothing(example(), "doc"), "words")
        self.too_many(nothing(example(), "doc"), five, "words")
        self.too_many(five, question(" and ".join(["true"] * 24)), "weight")
        used = check("return w(thing)", w=other)
        self.too_many(four, used, "words")
        self.too_many(~four, used, "words")
        roles = "some thing.team.members as m (m.role in ('a', 'b') or m.role = 'c')"
        self.too_many(question(roles), question("user.team.code in ('e', 'f')"), "words")

    def test_mismatches_go_ahead(self):
        heavy = " or ".join(["true"] * 30)
        for other in (question(heavy, "team"), question("true", "team"), question(heavy, "doc", example().filled()),
                      check("return True", schema=Schema("doc", tables_of(example())))):
            for right in (question("true"), question(heavy), ~question("thing.public")):
                for sign in LimitsTest.SIGNS[:2]:
                    with self.assertRaises(Mismatch) as caught:
                        sign(right, other)
                    self.assertEqual(caught.exception.at, 1)
                self.assertIs(right == other, False)
                self.assertIs(other == right, False)
                self.assertIs(right != other, True)

    def test_beside_what_is_no_right(self):
        for right in (question("true"), question(" or ".join(["true"] * 30)), everything(example(), "doc")):
            for other in (None, True, 0, "true", [], (), {}, example(), Store(example()), [right], "doc"):
                self.assertIs(right == other, False)
                self.assertIs(other == right, False)
                self.assertIs(right != other, True)

    def test_schemas_that_are_written_alike(self):
        again = Schema.read(str(example()))
        self.assertTrue(question("thing.level > 3") == check("return thing.level >= 4", schema=again))


class TimeTest(unittest.TestCase):
    """Rights that weigh 24 together are decided within seconds."""

    THREE = [
        ("a", [("word", "w", True), ("flag", "f"), ("number", "n")]),
        ("b", [("link", "p", "a", True, "bs"), ("link", "q", "a", True, None), ("word", "w", True), ("flag", "f")]),
        ("c", [("link", "p", "b", True, "cs"), ("word", "w", True), ("flag", "f")]),
        ("d", [("link", "p", "c", True, "ds"), ("word", "w", True), ("flag", "f")]),
    ]
    LINKS = [
        ("a", [("word", "w", True)]),
        ("b", [("link", "x", "a", True, "bs"), ("link", "y", "a", True, "cs"), ("link", "z", "a", True, None),
               ("word", "w", True), ("word", "v", True), ("flag", "f")]),
    ]

    def decide(self, schema, table, pairs):
        for one, two in pairs:
            a, b = question(one, table, schema), question(two, table, schema)
            self.assertLessEqual(a.weight() + b.weight(), 24)
            begin = time.monotonic()
            told = (a <= b, b <= a, a == b)
            self.assertEqual(told[2], told[0] and told[1])
            self.assertLess(time.monotonic() - begin, 5, f"{one}\n{two}")

    def test_walks(self):
        self.decide(Schema("a", TimeTest.THREE), "a", [
            ("no thing.bs as m (no m.cs as n (some n.ds as o (o.f)))",
             "no thing.bs as m (no m.cs as n (no n.ds as o (not o.f)))"),
            ("some thing.bs as m (m.q = user) and some user.bs as n (n.q = thing)",
             "some user.bs as n (n.q = thing) and some thing.bs as m (m.q = user)"),
            ("thing.w in user.bs.w and user.w = 'a'", "user.w = 'a' and thing.w in user.bs.w"),
            ("some thing.bs as m (some m.cs as n (n.f) and no m.cs as o (not o.f))",
             "some thing.bs as m (no m.cs as o (not o.f) and some m.cs as n (true))"),
            ("no thing.bs as m (m.f) or no user.bs as n (n.f)", "no user.bs as n (n.f) or no thing.bs as m (m.f)"),
        ])

    def test_words_and_links(self):
        self.decide(Schema("b", TimeTest.LINKS), "b", [
            ("not (thing.x.w not in ('a', 'zz') and thing.y.w in ('zz', 'c', 'd') and user.y.w != 'c' and user.x.w = thing.w)",
             "thing.f or no user.y.cs as m (m.w != m.w)"),
            ("user.w != user.v and thing.w in ('c', 'd') or thing.y.w != 'zz' or not (user.v != user.y.w and "
             "thing.v = 'zz' or user.z.w = 'zz' or thing.v in ('zz', 'a', 'c'))", "user.x = user.x or user.x lacks"),
            ("thing.v in ('c', 'd') and user.y.w != thing.x.w and user.x.w not in ('c', 'zz') and thing.w != 'd'",
             "thing.w != 'd' and user.x.w not in ('zz', 'c') and thing.x.w != user.y.w and thing.v in ('d', 'c')"),
            ("thing.x = thing.y and thing.y = thing.z and thing.z = user.x and user.x = user.z",
             "user.z = user.x and user.x = thing.x and thing.x = thing.y and thing.z = thing.y"),
            ("thing.x != thing.y and thing.y != thing.z and thing.z != user.x and user.x != user.z",
             "user.z != user.x and user.z != thing.z and thing.y != thing.x and thing.z != thing.y"),
        ])
