"""What is promised over the whole: used rights, rights that are put together, and spellings of one right."""

import unittest

from listandpage.books import Book
from listandpage.cases import is_certificate
from listandpage.errors import TooMany
from listandpage.families import Family
from listandpage.judging import judge, never
from listandpage.parts import bounds, kept_part
from listandpage.rights import all_of, any_of, everything, nothing
from listandpage.runs import run
from listandpage.stores import Store
from tests.meanings import pairs_of, some_spelled
from tests.samples import chances, deep, example, loose, some_rows, tables_of
from tests.test_trees import read


class WholeCase(unittest.TestCase):
    def same(self, one, two, walks=True):
        """Two rights that admit the same and, if so wanted, walk the same, too."""
        if one.weight() + two.weight() <= 24:
            verdict = judge(one, two)
            self.assertTrue(verdict, (str(one), str(two)))
            self.assertIs(is_certificate(one, two, verdict.certificate()), True)
        none = nothing(one.schema, one.table)
        if walks:
            self.assertEqual(one.walks(), two.walks())
            self.assertEqual(bounds(one, none), bounds(two, none))
        for chance in chances(12):
            store = Store(one.schema, some_rows(chance, tables_of(one.schema)))
            for thing, user in pairs_of(store, one.table)[:6]:
                told = one.admits(store, thing, user)
                self.assertIs(two.admits(store, thing, user), told)
                self.assertIs(thing in one(store, user), told)
                kept = kept_part(one, none, store, thing, user)
                if walks:
                    self.assertEqual(kept_part(two, none, store, thing, user), kept)
                place = kept[one.table].index(thing), kept[one.schema.user].index(user)
                self.assertIs(two.admits(store.part(kept), *place), told)


class UsedTest(WholeCase):
    def check(self, text, uses, inlined, extra, schema=None, table="doc"):
        """A right that uses others is as the text with theirs in place; of a use one more is weighed."""
        schema = schema or example()
        one = read(schema, table, text, uses)
        two = read(schema, table, inlined)
        self.assertEqual(one.weight(), two.weight() + extra)
        self.same(one, two)

    def test_questions_in_questions(self):
        uses = {"own": read(example(), "doc", "thing.owner = user"),
                "mate": read(example(), "person", "thing.team = user.team")}
        self.check("own(thing) or mate(thing.owner)", uses,
                   "thing.owner = user or thing.owner.team = user.team", 2)

    def test_unknown_in_a_used_right(self):
        uses = {"mate": read(example(), "person", "thing.team = user.team")}
        verdict = judge(read(example(), "doc", "not mate(thing.owner)", uses),
                        read(example(), "doc", "not thing.owner.team = user.team"))
        self.assertEqual((verdict.way, len(verdict)), ("first", 2))
        self.same(read(example(), "doc", "not mate(thing.owner)", uses),
                  read(example(), "doc", "return not (thing.owner.team is not None and thing.owner.team == user.team)"))

    def test_walks(self):
        uses = {"all": None, "lead": read(example(), "member", "thing.person = user and thing.role = 'lead'"),
                "team": read(example(), "team", "some thing.members as m (m.person = user)"),
                "page": read(example(), "team", "for m in thing.members:\n    if m.person == user:\n        return True")}
        self.check("some thing.team.members as m (lead(m))", uses,
                   "some thing.team.members as m (m.person = user and m.role = 'lead')", 2)
        self.check("team(thing.team)", uses, "some thing.team.members as m (m.person = user)", 1)
        # The `True` in the loop weighs 2.
        self.check("page(thing.team)", uses, "some thing.team.members as m (m.person = user)", 1 + 2)
        self.check("return page(thing.team) or thing.public", uses,
                   "return any(m.person == user for m in thing.team.members) or thing.public", 1 + 2)
        self.check("return team(thing.team)", uses, "return user in [m.person for m in thing.team.members]", 7 - 8)
        self.same(read(example(), "doc", "not page(thing.team)", uses),
                  read(example(), "doc", "not thing.team lacks and no thing.team.members as m (m.person = user)"))

    def test_walks_in_walks(self):
        uses = {"noted": read(deep(), "member", "some thing.notes as n (n.by = user)")}
        uses["busy"] = read(deep(), "team", "return any(noted(m) for m in thing.members)", dict(uses))
        self.check("some thing.teams as t (busy(t))", uses,
                   "some thing.teams as t (some t.members as m (some m.notes as n (n.by = user)))", 4, deep(), "org")
        self.check("for t in thing.teams:\n    if not busy(t):\n        return False\nreturn True", uses,
                   "no thing.teams as t (no t.members as m (some m.notes as n (n.by = user)))", 4 + 2 + 1,
                   deep(), "org")

    def test_a_right_that_is_used_twice(self):
        uses = {"open": read(deep(), "team", "some thing.members as m (m.role = 'a')")}
        self.check("open(thing) and (open(thing) or thing.size = 3)", uses,
                   "some thing.members as m (m.role = 'a') and "
                   "(some thing.members as k (k.role = 'a') or thing.size = 3)", 2, deep(), "team")


class SpellingsTest(WholeCase):
    def test_walks(self):
        texts = [
            "some thing.team.members as m (m.person = user)",
            "return any(m.person == user for m in thing.team.members)",
            "return not all(m.person != user for m in thing.team.members)",
            "for m in thing.team.members:\n    if m.person == user:\n        return True",
            "t = thing.team\nfor m in t.members:\n    p = m.person\n    if p == user:\n        return True\nreturn False",
            "for m in thing.team.members:\n    if m.person != user:\n        x = m\n    else:\n        return True",
            "if thing.team is None:\n    return False\nelse:\n    for m in thing.team.members:\n"
            "        if m.person == user:\n            return True",
            "if any(m.person == user for m in thing.team.members):\n    return True\nelse:\n    return False",
            "return user in [m.person for m in thing.team.members]",
        ]
        rights = [read(example(), "doc", text) for text in texts]
        for right in rights:
            self.same(rights[0], right)
            self.same(right, rights[0])

    def test_walks_within_walks(self):
        texts = [
            "some thing.teams as t (t.size > 3 and some t.members as m (m.role = 'a'))",
            "return any(t.size > 3 and any(m.role == 'a' for m in t.members) for t in thing.teams)",
            "return any(t.size > 3 and not all(m.role != 'a' for m in t.members) for t in thing.teams)",
            "for t in thing.teams:\n    for m in t.members:\n        if m.role == 'a' and t.size > 3:\n"
            "            return True",
        ]
        rights = [read(deep(), "org", text) for text in texts]
        for right in rights[:3]:
            self.same(rights[0], right)
        self.same(rights[0], rights[3], walks=False)
        self.assertEqual(rights[3].walks(), rights[0].walks())
        texts = [
            "for t in thing.teams:\n    if t.size > 3:\n        for m in t.members:\n            if m.role == 'a':\n"
            "                return True\n    x = t\nreturn False",
            "for t in thing.teams:\n    if t.size <= 3:\n        x = t\n    else:\n        for m in t.members:\n"
            "            r = m\n            if not r.role != 'a':\n                return True",
        ]
        for text in texts:
            self.same(rights[0], read(deep(), "org", text))

    def test_page_and_list_agree(self):
        for chance in chances(100):
            schema = chance.choice([example(), deep(), loose()])
            made = some_spelled(chance, schema, "check", 10)
            store = Store(schema, some_rows(chance, tables_of(schema)))
            for thing, user in pairs_of(store, made.table)[:6]:
                self.assertIs(run(made.right, store, thing, user).opens, thing in made.right(store, user))


class TogetherTest(WholeCase):
    def test_used_rights_that_are_put_together(self):
        public, own = read(example(), "doc", "thing.public"), read(example(), "doc", "return thing.owner == user")
        family = Family(example(), "doc")
        family.add("a", (), "return thing.public")
        family.add("b", ("a",), "return super() and thing.owner == user")
        team = read(example(), "team", "some thing.members as m (m.person = user)")
        made = [
            (public & own, "thing.public and thing.owner = user", 5),
            (public | own, "thing.public or thing.owner = user", 5),
            (public - own, "thing.public and thing.owner != user", 5), (all_of(own), "thing.owner = user", 3),
            (any_of(public, own, own), "thing.public or thing.owner = user", 7),
            (family.right("b"), "thing.owner = user and thing.public", 5), (nothing(example(), "doc"), "false", 1),
            (everything(example(), "doc"), "true", 1), (~own, "thing.owner != user", 3),
        ]
        for right, text, weight in made:
            self.assertEqual(right.weight(), weight)
            other = read(example(), "doc", text)
            self.same(right, other)
            for spelled in ("r(thing)", "return r(thing)"):
                using = read(example(), "doc", spelled, {"r": right})
                self.assertEqual(using.weight(), weight + 1)
                self.same(using, other)
            book = Book.of(example(), r=right)
            self.same(book.question("q", "doc", "not not r(thing)"), other)
            self.same(book.check("c", "doc", "if q(thing):\n    return r(thing)"), other)
            self.assertEqual(book["c"].weight(), 2 + 2 * weight + 1)
        filled = team.filled()
        self.assertEqual((filled.weight(), filled.walks()), (team.weight(), team.walks()))
        self.same(read(example().filled(), "doc", "f(thing.team)", {"f": filled}),
                  read(example().filled(), "doc", "some thing.team.members as m (m.person = user)"))

    def test_within_walks_they_weigh_twice(self):
        lead = read(deep(), "member", "thing.role = 'a'") & read(deep(), "member", "some thing.notes as n (n.public)")
        self.assertEqual(lead.weight(), 1 + 2 + 5)
        using = read(deep(), "team", "some thing.members as m (r(m))", {"r": lead})
        # The use and the sign count twice there, and what counts once in the parts; the inner test twice only.
        self.assertEqual(using.weight(), 1 + 2 * (1 + 1 + 2 + 1) + 4)
        self.assertEqual(using.walks(), ["member", "note"])
        self.same(using, read(deep(), "team", "some thing.members as m (m.role = 'a' and some m.notes as n (n.public))"))

    def test_less_or_the_same(self):
        told = {True: 0, False: 0}
        for chance in chances(300):
            schema = chance.choice([example(), deep(), loose()])
            table = chance.choice(schema.tables)
            a, b = [some_spelled(chance, schema, chance.choice(["question", "check"]), 2, {}, table).right
                    for _ in range(2)]
            if chance.random() < 0.5:
                b = chance.choice([a | b, a & b, a - b, ~a]) if a.weight() + b.weight() < 90 else b
            try:
                verdict, less, more = judge(a, b), never(a - b), never(b - a)
            except TooMany:
                continue
            told[less] += 1
            self.assertEqual((a <= b, b <= a), (less, more))
            self.assertEqual((a < b, b < a), (less and not more, more and not less))
            self.assertEqual((a == b, b == a), (bool(verdict),) * 2)
            self.assertIs(bool(verdict), less and more)
            self.assertEqual((a,) == (b,), bool(verdict))
            self.assertEqual([a] == [b], bool(verdict))
        self.assertGreater(min(told.values()), 50)
