"""Verdicts: whether rights are alike, least stores on which they part, and certificates of both."""

import time
import unittest

from listandpage.cases import is_certificate, is_tree
from listandpage.checks import Check
from listandpage.errors import Mismatch, TooMany
from listandpage.judging import Verdict, judge, never, parts_by_lacking
from listandpage.parts import kept_part
from listandpage.questions import Question
from listandpage.rights import everything, nothing
from listandpage.schemas import Schema
from listandpage.stores import Store
from tests.meanings import Spelled, pairs_of, some_spelled
from tests.mutants import mutant
from tests.samples import EXAMPLE_TABLES, chances, deep, example, loose, some_rows, some_schema, tables_of
from tests.spelled import WORDS
from tests.test_kept import some_right
from tests.test_trees import read
from tests.ways import Guide, small_stores

TINY = [("a", [("flag", "f")]), ("b", [("link", "x", "a", True, "bs"), ("word", "w", True)])]
CHAIN = [("a", [("flag", "f")]), ("b", [("link", "x", "a", True, "bs")]),
         ("c", [("link", "y", "b", False, "cs"), ("flag", "f")])]


def parting(store, one, two, table):
    """The first thing and user that part two rights on a store, and which one admits; None without any."""
    for thing, user in pairs_of(store, table):
        told = one.admits(store, thing, user)
        if told != two.admits(store, thing, user):
            return thing, user, "first" if told else "second"
    return None


def judged(chance, schema, size=None):
    """Two random rights with their verdict, None if they are too heavy."""
    table = chance.choice(schema.tables)
    uses = {name: some_spelled(chance, schema, chance.choice(["question", "check"]), 3) for name in "ab"}
    if size is not None:
        one, two = [some_spelled(chance, schema, chance.choice(["question", "check"]), size, uses, table)
                    for _ in range(2)]
    else:
        one = some_right(chance, schema, table, uses)
        two = one if chance.random() < 0.1 else some_right(chance, schema, table, uses)
    try:
        return one, two, judge(one.right, two.right)
    except TooMany:
        return None


class JudgeTest(unittest.TestCase):
    schema = example()

    def alike(self, one, two, table="doc", schema=None):
        rights = [read(schema or self.schema, table, text) for text in (one, two)]
        for pair in (rights, rights[::-1]):
            verdict = judge(*pair)
            self.assertIsInstance(verdict, Verdict)
            self.assertEqual((bool(verdict), len(verdict), verdict.way), (True, 0, None))
            self.assertEqual(verdict.certificate()[0], "alike")
            self.assertIs(is_certificate(*pair, verdict.certificate()), True)

    def part(self, one, two, rows, way, table="doc", schema=None):
        """They part on so many rows; way is None where the one or the other may admit."""
        rights = [read(schema or self.schema, table, text) for text in (one, two)]
        for pair, its in ((rights, way), (rights[::-1], {"first": "second", "second": "first"}.get(way))):
            verdict = judge(*pair)
            self.assertEqual((bool(verdict), len(verdict)), (False, rows))
            self.assertIn(verdict.way, ("first", "second") if way is None else (its,))
            certificate = verdict.certificate()
            self.assertIs(is_certificate(*pair, certificate), True)
            self.assertEqual(len(certificate[1]), rows)
            self.assertIs(pair[0].admits(*certificate[1:4]), verdict.way == "first")
            self.assertIs(pair[1].admits(*certificate[1:4]), verdict.way == "second")

    def test_guards(self):
        self.part("thing.team = user.team", "return thing.team == user.team", 2, "second")
        self.alike("thing.team = user.team", "return thing.team is not None and thing.team == user.team")
        self.alike("thing.team = user.team", "return not user.team is None and user.team == thing.team")
        self.part("thing.team != user.team", "return thing.team != user.team", 3, "second")
        self.alike("thing.team != user.team",
                   "return thing.team is not None and user.team is not None and thing.team != user.team")
        self.part("thing.team.code = user.team.code", "return thing.team.code == user.team.code", 2, "second")
        self.alike("thing.team.code not in ('a')",
                   "return thing.team.code is not None and thing.team.code not in ('a')")

    def test_spellings_of_walks(self):
        question = "some thing.team.members as m (m.person = user)"
        for text in ("return any(m.person == user for m in thing.team.members)",
                     "return not all(m.person != user for m in thing.team.members)",
                     "for m in thing.team.members:\n    if m.person == user:\n        return True",
                     "t = thing.team\nif t is None:\n    return False\nelse:\n    for m in t.members:\n"
                     "        p = m.person\n        if not p == user:\n            q = p\n        else:\n"
                     "            return True\nreturn False",
                     "return user in [m.person for m in thing.team.members]",
                     "return True and thing.team is not None and user in [m.person for m in thing.team.members]",
                     "user in thing.team.members.person"):
            self.alike(question, text)
        self.part(question, "user in thing.team.members.person and thing.public", 4, "first")

    def test_words_of_lists(self):
        lists = ("thing.team.code in thing.team.members.role",
                 "return thing.team.code in [m.role for m in thing.team.members]")
        for one in lists:
            self.part(one, "some thing.team.members as m (true) and not thing.team.code lacks", 4, "second")
            self.part(one, "some thing.team.members as m (m.role = 'a') and thing.team.code = 'a'", 4, "first")
            self.alike(one, "some thing.team.members as m (m.role = thing.team.code)")
            self.alike(one, lists[0])

    def test_early_returns(self):
        self.alike("no thing.team.members as m (m.role = 'a')",
                   "for m in thing.team.members:\n    if m.role == 'a':\n        return False\nreturn True")
        self.part("no thing.team.members as m (m.role = 'a')",
                  "for m in thing.team.members:\n    if m.role != 'a':\n        return False\nreturn True", 4, None)

    def test_turned_about(self):
        self.alike("thing.public and thing.owner = user", "user = thing.owner and thing.public")
        self.alike("not (thing.public or thing.level < 3)", "thing.level >= 3 and not thing.public")
        self.alike("no thing.team.members as m (true)", "not some thing.team.members as k (true)")

    def test_a_denied_question(self):
        self.part("thing.public", "return not thing.public", 2, None)
        self.part("thing = user", "return not thing == user", 1, "first", "person")
        self.part("thing.staff", "return not thing.staff", 1, None, "person")
        self.part("true", "false", 1, "first", "person")
        self.part("true", "false", 2, "first")
        self.part("thing != user", "false", 2, "first", "person")

    def test_rows_that_links_need(self):
        # An owner must be there; it may be the user.
        self.part("thing.public", "thing.public and thing.owner = user", 3, "first")
        self.part("thing.public and thing.owner = user", "false", 2, "first")
        # A note needs a member, who needs no team; the user is a person of no org.
        self.part("thing.public", "false", 3, "first", "note", deep())
        self.part("thing.public and not thing.member.team lacks", "false", 5, "first", "note", deep())

    def test_not_optional_links_are_filled(self):
        schema = Schema("a", [("a", [("flag", "f")]), ("b", [("link", "x", "a", False, "bs")]),
                              ("c", [("link", "y", "b", False, None), ("flag", "g")])])
        self.part("thing.g", "false", 3, "first", "c", schema)
        self.part("thing.g and thing.y.x != user", "false", 4, "first", "c", schema)
        # The row b of the thing would be in the list of the user, if its x were the user.
        self.part("thing.g and no user.bs as b (true)", "false", 4, "first", "c", schema)
        self.part("thing.g and some user.bs as b (b != thing.y)", "false", 4, "first", "c", schema)

    def test_many_links_that_cannot_lack(self):
        names = "abcdef"
        tables = [("a", [("flag", "f")])]
        for before, name in zip(names, names[1:]):
            links = [("link", "l" + each, before, False, None) for each in "pqrst"]
            tables.append((name, links + [("flag", "f")]))
        for user, alone in (("a", 6), ("f", 6)):
            schema = Schema(user, tables)
            self.part("true", "false", alone, "first", "f", schema)
            self.part("thing.f", "thing.lp.f", alone, None, "f", schema)
            self.part("thing.lp.lp.lp.lp.lp = thing.lq.lq.lq.lq.lq", "true", alone + 1, "second", "f", schema)
            self.part("thing.lp != thing.lq and thing.lp != thing.lr", "false", alone + 1, "first", "f", schema)
        tables[1] = ("b", [("link", "lp", "a", False, "bs")] + tables[1][1][1:])
        schema = Schema("f", tables)
        # A row of b is in the list of the row to which its lp leads.
        self.alike("no thing.lp.lp.bs as x (true)", "false", "c", schema)
        # Two rows of a, a row of each other table.
        self.part("no thing.lq.lq.bs as x (true)", "false", 7, "first", "c", schema)

    def test_rights_of_one_table(self):
        self.alike("thing = user or thing.staff", "return user == thing or not (user != thing and not thing.staff)",
                   "person")
        self.part("thing.staff", "user.staff", 2, None, "person")
        self.part("thing.team = user.team", "return thing == user", 1, "second", "person")
        self.part("thing.team = user.team or thing = user", "return thing == user", 3, "first", "person")

    def test_walks_three_deep(self):
        inner = "some thing.teams as t ({}some t.members as m ({}some m.notes as n (n.public)))"
        self.alike(inner.format("", ""), "return any(any(any(n.public for n in m.notes) for m in t.members) "
                   "for t in thing.teams)", "org", deep())
        self.alike("some thing.teams as t (no t.members as m (no m.notes as n (n.public)))",
                   "for t in thing.teams:\n    if all(any(n.public for n in m.notes) for m in t.members):\n"
                   "        return True", "org", deep())
        # The org, the user, a team, a member, and a note.
        self.part(inner.format("", ""), inner.format("t.size = 1 and ", ""), 5, "first", "org", deep())
        self.part(inner.format("", ""), inner.format("", "m.role = 'a' and "), 5, "first", "org", deep())
        self.part("no thing.teams as t (some t.members as m (no m.notes as n (n.public)))",
                  "no thing.teams as t (some t.members as m (no m.notes as n (true)))", 5, "second", "org", deep())

    def test_a_row_is_in_one_list_of_a_link(self):
        text = "thing.team != user.team and some thing.team.members as m (true) and some user.team.members as k (true)"
        self.part(text, "false", 6, "first")
        self.assertIs(read(self.schema, "doc", text) <= nothing(self.schema, "doc"), False)
        self.part(text.replace("!=", "="), "false", 4, "first")
        self.alike("thing.team != user.team and some thing.team.members as m (m.team = user.team)", "false")

    def test_stores_with_many_rows(self):
        three = " and ".join(f"some thing.notes as {name} ({name}.stars = {number})"
                             for name, number in (("i", 1), ("j", 2), ("k", 3)))
        self.part(three, "false", 5, "first", "member", deep())
        self.part("no thing.members as m (m.role = 'a') and some thing.members as k (true)",
                  "false", 4, "first", "team", deep())
        five = " and ".join(f"some thing.bs as {name} ({name}.n = {number})" for name, number in
                            (("i", 1), ("j", 2), ("k", 3), ("m", 4)))
        self.part(five, "false", 5, "first", "a", loose())

    def test_two_rows_are_not_told_apart_but_by_what_they_have(self):
        self.alike("some thing.team.members as m (true) and some thing.team.members as k (true)",
                   "some thing.team.members as m (true)")

    def test_errors_in_order(self):
        heavy = read(self.schema, "doc", " or ".join(["thing.public"] * 13))
        for other in (everything(self.schema, "team"), everything(Schema("team", EXAMPLE_TABLES), "doc")):
            for asked in (judge, parts_by_lacking):
                for pair in ((heavy, other), (other, heavy)):
                    with self.assertRaises(Mismatch) as caught:
                        asked(*pair)
                    self.assertEqual(caught.exception.at, 1)
        words = [read(self.schema, "doc", f"thing.team.code in ({text})")
                 for text in ("'a','b','a'", "'c','d','e'", "'c','d','b'")]
        text = " or ".join(["thing.public"] * 10 + ["thing.team.code in ('a','b','c','d','e')"] * 2)
        heavier = read(self.schema, "doc", text)
        one = everything(self.schema, "doc")
        for pair, what in (((heavy, one), "weight"), ((one, heavy), "weight"), ((words[0], words[1]), "words"),
                           ((heavier, words[0]), "weight"), ((heavier, one), "weight")):
            for asked in (judge, parts_by_lacking, lambda a, b: a <= b, lambda a, b: a == b):
                with self.assertRaises(TooMany) as caught:
                    asked(*pair)
                self.assertEqual(caught.exception.what, what)
        self.assertFalse(judge(words[0], words[2]))
        light = read(self.schema, "doc", " or ".join(["thing.public"] * 11))
        # 22 and 2 are 24, 22 and 3 are 25.
        self.assertTrue(judge(light, read(self.schema, "doc", "thing.public")))
        with self.assertRaises(TooMany):
            judge(light, one | one)
        for right, what in ((heavy, "weight"), (heavier, "weight")):
            with self.assertRaises(TooMany) as caught:
                never(right)
            self.assertEqual(caught.exception.what, what)
        self.assertFalse(never(light))
        twelve = read(self.schema, "doc", " or ".join(["thing.public"] * 12))
        with self.assertRaises(TooMany):
            never(twelve)

    def test_by_name(self):
        one = everything(self.schema, "doc")
        self.assertTrue(judge(two=one, one=one))
        self.assertFalse(parts_by_lacking(two=one, one=one))
        self.assertFalse(never(right=one))


class VerdictTest(unittest.TestCase):
    def test_a_verdict_stays(self):
        one = read(example(), "doc", "thing.team = user.team")
        two = read(example(), "doc", "return thing.team == user.team")
        verdict = judge(one, two)
        before = verdict.certificate()
        told = verdict.certificate()
        self.assertIsNot(before[1], told[1])
        told[1].add("team", (None,))
        told[1].change("doc", 0, "public", not told[1].value("doc", 0, "public"))
        other = judge(one, one)
        self.assertTrue(other)
        self.assertEqual(verdict.certificate(), before)
        self.assertEqual((bool(verdict), len(verdict), verdict.way), (False, 2, "second"))
        again = judge(one, two)
        self.assertEqual(again.certificate(), before)

    def test_random_pairs(self):
        told = {True: 0, False: 0}
        for chance in chances(700):
            schema = chance.choice([example(), deep(), loose(), deep("org"), loose("b"), some_schema(chance)])
            found = judged(chance, schema)
            if found is None:
                continue
            one, two, verdict = found
            told[bool(verdict)] += 1
            back = judge(two.right, one.right)
            self.assertEqual((bool(back), len(back)), (bool(verdict), len(verdict)))
            self.assertEqual(one.right == two.right, bool(verdict))
            self.check_certificate(one, two, verdict)
            self.check_ways(chance, one, two, verdict)
        self.assertGreater(min(told.values()), 60)

    def check_certificate(self, one, two, verdict):
        certificate = verdict.certificate()
        self.assertIs(is_certificate(one.right, two.right, certificate), True)
        self.assertEqual(verdict.certificate(), certificate)
        if verdict:
            self.assertEqual((verdict.way, len(verdict)), (None, 0))
            self.assertIs(is_tree(one.right, two.right, certificate[1]), True)
            return
        store, thing, user = certificate[1:4]
        self.assertEqual(len(store), len(verdict))
        told = [right.right.admits(store, thing, user) for right in (one, two)]
        self.assertEqual(told, [verdict.way == "first", verdict.way == "second"])
        # A least store has nothing to leave out.
        kept = kept_part(one.right, two.right, store, thing, user)
        self.assertEqual(sum(map(len, kept.values())), len(store))
        for table in store.schema.tables:
            for at in range(len(store.rows(table))):
                self.check_without(one, two, store, table, at)

    def check_without(self, one, two, store, table, at):
        """Without a row, and without those that link to it, they do not part."""
        gone = {(table, at)}
        for name in store.schema.tables:
            for row, values in enumerate(store.rows(name)):
                columns = zip(store.schema.columns(name), values)
                if any(column[0] == "link" and (column[2], value) in gone for column, value in columns):
                    gone.add((name, row))
        kept = {name: [row for row in range(len(store.rows(name))) if (name, row) not in gone]
                for name in store.schema.tables}
        self.assertIsNone(parting(store.part(kept), one.right, two.right, one.right.table))

    def check_ways(self, chance, one, two, verdict):
        """Random stores go their ways through the tree."""
        tree = verdict.certificate()[-1]
        schema = one.right.schema
        store = Store(schema, some_rows(chance, tables_of(schema), 3))
        for thing, user in pairs_of(store, one.right.table)[:4]:
            leaf, named = Guide(one, two, store, thing, user).follow(tree)
            told = [right.right.admits(store, thing, user) for right in (one, two)]
            if verdict:
                self.assertEqual([leaf, leaf], told)
            else:
                self.assertTrue(leaf == "enough" and named >= len(verdict) or [leaf, leaf] == told)

    def test_no_tree_shows_what_is_not_so(self):
        for chance in chances(300):
            found = judged(chance, chance.choice([deep(), loose(), some_schema(chance)]))
            if found is None or found[2]:
                continue
            one, two, verdict = found
            tree = verdict.certificate()[-1]
            for _ in range(8):
                other = mutant(chance, tree)
                self.assertIs(is_certificate(one.right, two.right, ("alike", other)), False)
                self.assertIs(is_tree(one.right, two.right, other, least=len(verdict) + 1), False)


class SearchTest(unittest.TestCase):
    """Comparison with a search through all small stores."""

    def search(self, tables, most, words, count, size, sizes):
        """The told numbers of rows, 0 for alike pairs, each found by the search, too."""
        stores = list(small_stores(Schema("a", tables), most, words))
        for chance in chances(count):
            found = judged(chance, Schema("a", tables), size)
            if found is None:
                continue
            one, two, verdict = found
            least = 0
            for store in stores:
                if least == 0 and parting(store, one.right, two.right, one.right.table) is not None:
                    least = len(store)
                    break
            if least == 0 and not verdict:
                self.assertGreater(len(verdict), most)
            else:
                self.assertEqual(len(verdict), least)
            sizes[len(verdict)] = sizes.get(len(verdict), 0) + 1

    def test_words_in_lists(self):
        sizes = {}
        self.search(TINY, 3, [*WORDS, "p", "q"], 60, 3, sizes)
        self.assertGreater(len(sizes), 3)

    def test_walks_within_walks(self):
        sizes = {}
        self.search(CHAIN, 4, [], 60, 4, sizes)
        self.assertGreater(len(sizes), 3)


class ValuesTest(unittest.TestCase):
    """Numbers and words that tests tell apart."""

    def pair(self, chance, schema, some_test):
        """Two questions with one or two tests; sometimes the second says what the first says."""
        trees = []
        for _ in range(2):
            tests = [some_test(chance) for _ in range(chance.choice([1, 2]))]
            trees.append(tests[0] if len(tests) == 1 else (chance.choice(["or", "and"]), tests))
        if chance.random() < 0.3:
            first = trees[0]
            same = (first[0], first[1][::-1]) if first[0] in ("or", "and") else first
            trees[1] = ("not", ("round", ("not", ("round", same))))
        return [Spelled(schema, "a", "question", tree, {}).right for tree in trees]

    def test_numbers(self):
        schema = Schema("a", [("a", [("number", "n"), ("flag", "f")])])
        told = {True: 0, False: 0}
        for chance in chances(300):
            numbers = chance.choice([[0, 1, 2], [5, 6, 8], [10 ** 12 - 1, 10 ** 12 - 2, 0], [3, 7]])

            def some_test(chance):
                sign = chance.choice(["=", "!=", "<", "<=", ">", ">="])
                return ("number", ("thing", "n"), sign, chance.choice(numbers))

            one, two = self.pair(chance, schema, some_test)
            verdict = judge(one, two)
            store = Store(schema, {"a": [(0, False)]})
            expected = True
            for number in {number + more for number in numbers for more in (-1, 0, 1)}:
                store.change("a", 0, "n", number)
                expected &= one.admits(store, 0, 0) == two.admits(store, 0, 0)
            self.assertIs(bool(verdict), expected)
            told[expected] += 1
            self.assertIs(is_certificate(one, two, verdict.certificate()), True)
        self.assertGreater(min(told.values()), 30)

    def test_numbers_beside_those_written(self):
        for one, two, number in (("thing.level < 0", "false", -1), ("thing.level > 0", "thing.level > 1", 1),
                                 ("thing.level > 3 and thing.level < 5", "false", 4), ("true", "thing.level <= 7", 8),
                                 ("true", "thing.level >= 7", 6), ("thing.level >= 7", "thing.level > 7", 7),
                                 ("thing.level > 999999999999", "false", 10 ** 12)):
            verdict = judge(read(example(), "doc", one), read(example(), "doc", two))
            self.assertEqual((len(verdict), verdict.way), (2, "first"))
            told = verdict.certificate()[1].value("doc", 0, "level")
            self.assertTrue(told == number or number == 6 and told < 7 or number == -1 and told < 0
                            or number in (8, 10 ** 12) and told >= number)
            self.assertFalse(read(example(), "doc", one) <= read(example(), "doc", two))

    def test_words(self):
        schema = Schema("a", [("a", [("word", "v", True), ("word", "w", False), ("word", "u", True)])])
        stores = list(small_stores(schema, 1, ["p", "q", "r", "x", "y"]))
        told = {True: 0, False: 0}
        for chance in chances(150):
            one, two = self.pair(chance, schema, self.some_test)
            verdict = judge(one, two)
            alone = all(parting(store, one, two, "a") is None for store in stores)
            if alone and not verdict:
                self.assertEqual(len(verdict), 2)
            else:
                self.assertIs(alone, bool(verdict))
            told[bool(verdict)] += 1
            self.assertIs(is_certificate(one, two, verdict.certificate()), True)
        self.assertGreater(min(told.values()), 20)

    @staticmethod
    def some_test(chance):
        path = (chance.choice(["thing", "user"]), chance.choice("vwu"))
        kind = chance.randrange(4)
        if kind == 0:
            return ("paths", path, chance.random() < 0.5, (chance.choice(["thing", "user"]), chance.choice("vwu")))
        if kind == 1:
            return ("lacks", path, False)
        return ("words", path, chance.random() < 0.5, chance.sample(["p", "q", "r"], chance.choice([1, 2])))

    def test_new_words(self):
        schema = Schema("a", [("a", [("word", "v", False), ("word", "w", False), ("word", "u", False)])])

        def verdict(one, two):
            return judge(Question(schema, "a", one), Question(schema, "a", two))

        apart = "thing.v != thing.w and thing.v != thing.u and thing.w != thing.u"
        found = verdict(apart, apart + " and thing.v in ('a','aa','b','c')")
        self.assertEqual((len(found), found.way), (1, "first"))
        row = found.certificate()[1].rows("a")[0]
        self.assertEqual(len(set(row)), 3)
        self.assertTrue(all(word.isalpha() and word.islower() and len(word) <= 8 for word in row))
        texts = [f"thing.{name} not in ('a','aa','b','ab')" for name in "vwu"]
        self.assertFalse(verdict(" and ".join(texts), "false"))
        self.assertEqual(len(verdict(" and ".join(texts[:2] + ["thing.v != thing.w"]), "false")), 1)
        self.assertTrue(verdict("thing.v in ('a') and thing.v = thing.w", "thing.w in ('a') and thing.w = thing.v"))


class LackingTest(unittest.TestCase):
    def test_parting_by_lacking(self):
        for one, two, expected in (
                ("thing.team = user.team", "return thing.team == user.team", True),
                ("thing.team != user.team", "return thing.team != user.team", True),
                ("thing.team = user.team", "return thing.team is not None and thing.team == user.team", False),
                ("thing.team = user.team", "return thing.team != user.team", False),
                ("thing.public", "thing.level = 1", False),
                ("thing.team lacks", "false", True),
                ("thing.team lacks or thing.team.code lacks", "return thing.team.code is None and False", True),
                ("some thing.team.members as m (not m.person = user)",
                 "return any(m.person != user for m in thing.team.members)", True)):
            rights = [read(example(), "doc", text) for text in (one, two)]
            self.assertIs(parts_by_lacking(*rights), expected)
            self.assertIs(parts_by_lacking(*rights[::-1]), expected)

    def test_as_judged(self):
        told = {True: 0, False: 0}
        for chance in chances(400):
            found = judged(chance, chance.choice([example(), deep(), loose()]), 3)
            if found is not None:
                one, two, verdict = found
                filled = judge(one.right.filled(), two.right.filled())
                expected = bool(filled) and not verdict
                self.assertIs(parts_by_lacking(one.right, two.right), expected)
                told[expected] += 1
        self.assertGreater(min(told.values()), 5)

    def test_never(self):
        self.assertIs(never(nothing(example(), "doc")), True)
        self.assertIs(never(everything(example(), "doc")), False)
        for text, expected in (("thing.public and not thing.public", True), ("thing.level > 4 and thing.level < 5", True),
                               ("thing.level > 4 and thing.level < 6", False), ("thing.team != thing.team", True),
                               ("some thing.team.members as m (m.team != thing.team)", True),
                               ("thing.team lacks and some thing.team.members as m (true)", True)):
            self.assertIs(never(read(example(), "doc", text)), expected)
        for chance in chances(150):
            made = some_spelled(chance, deep(), "question", 4)
            if made.weight < 24:
                self.assertIs(never(made.right), bool(judge(made.right, nothing(deep(), made.table))))


class TimeTest(unittest.TestCase):
    def test_heavy_pairs(self):
        begin = time.perf_counter()
        deepest = "some thing.teams as t (no t.members as m (no m.notes as n (n.public and n.stars = 1)))"
        pairs = [
            (deep(), "org", deepest, "some thing.teams as t (some t.members as m (some m.notes as n (true)))"),
            (loose("b"), "b", "thing.x.w = user.w and user.w = thing.y.w and thing.w = user.w",
             "thing.x.w = thing.y.w and user.w = thing.x.w and user.w = thing.w"),
            (example(), "doc", "thing.team.code in thing.team.members.role", "thing.team.code in thing.team.members.role"),
            (deep(), "member", " and ".join(f"some thing.notes as {name} ({name}.stars = 1)" for name in "ij"),
             "some thing.notes as i (i.stars = 1) and some thing.notes as j (j.public)"),
        ]
        for schema, table, one, two in pairs:
            rights = [read(schema, table, text) for text in (one, two)]
            self.assertIn(rights[0].weight() + rights[1].weight(), range(20, 25), (one, two))
            self.assertIs(is_certificate(*rights, judge(*rights).certificate()), True)
        self.assertLess(time.perf_counter() - begin, 5)
