"""Questions and checks whose names or tests do not fit: the first fault in its order."""

import unittest

from listandpage.checks import Check
from listandpage.errors import BadCheck, BadQuestion
from listandpage.questions import Question
from tests.grammar import TOKEN
from tests.meanings import some_spelled
from tests.samples import chances, deep, example, loose, some_schema

# A sign @ stands in front of the fault of each of these texts.
QUESTIONS = [
    # Names, each at its own position.
    "@foo",
    "@foo.bar = 7",
    "thing.@foo",
    "thing.@staff",
    "user.@public",
    "thing.team.members.@foo lacks",
    "thing.owner.@foo.bar.baz = foo",
    "thing.owner = user.@foo",
    "thing.owner = @owner",
    "thing.level.@foo > 3",
    "thing.level.@level > 3",
    "thing.owner.team.code.@foo = 'a'",
    "thing.team.members.team.@members lacks",
    "user in thing.team.members.team.@members",
    "user in thing.team.members.role.@foo",
    "user in thing.team.members.@foo",
    "thing.@members lacks",
    "some thing.@teams as m (true)",
    "some @teams as m (true)",
    "some thing.team.@foo as thingthing (true)",
    "some thing.team.members as @verylongn (true)",
    "some thing.team.members as m (some thing.team.members as @m (true))",
    "some thing.team.members as m (true) and no thing.team.members as @m (true)",
    "some thing.team.members as m (true) and @m.role = 'a'",
    "@m.role = 'a' and some thing.team.members as m (true)",
    "some thing.team.members as m (true) or some @m.places as n (true)",
    "some thing.team.members as m (m.@staff)",
    "some thing.team.members as m (@n.role = 'a')",
    "some @m.members as m (true)",
    # A new name may be the name of a table, a column or a list.
    "some thing.team.members as team (team.@members lacks)",
    "some thing.team.members as members (members.role = 'a') and thing.@role",
    # What does not fit, at the first token of the test.
    "@thing",
    "@thing.owner",
    "@thing.level",
    "@user.team.code",
    "not ( @thing.owner )",
    "@thing.public = 7",
    "@thing.public = 'a'",
    "@thing.public = thing.public",
    "@thing.level = 'a'",
    "@thing.level = thing.level",
    "@thing.level = user.team.code",
    "@user.team.code = 7",
    "@user.team.code = thing.level",
    "@user.team.code < 7",
    "@thing.owner < 7",
    "@thing.public >= 7",
    "@thing.owner = 'a'",
    "@thing.owner != 7",
    "@thing.owner = thing.team",
    "@thing.owner = thing",
    "@thing = user",
    "@user.team = user.team.code",
    "@thing.owner = user.team.code",
    "@user.team.code = thing.owner",
    "@thing.level in ('a')",
    "@thing.owner in ('a')",
    "@thing.public not in ('a', 'b')",
    "@thing.team.members lacks",
    "@thing.team.members",
    "@thing.team.members.role = 'a'",
    "@thing.team.members.person = user",
    "@user = thing.team.members.person",
    "@thing.team.members.role in ('a')",
    "@thing.team.members.person in thing.team.members.person",
    "@user in thing.owner",
    "@user in user",
    "@user in thing.team.members",
    "@user in thing.team.members.role",
    "@user.team.code in thing.team.members",
    "@user.team.code in thing.team.members.person",
    "@thing.level in thing.team.members.role",
    "@thing.public in thing.team.members.role",
    "@some thing as m (true)",
    "@some thing.team as m (true)",
    "@no thing.level as m (true)",
    "@some thing.team.members.person as m (true)",
    "@no thing.team.members.role as m (true)",
    # Names go ahead of fitting, and the left goes ahead of the right.
    "@thing.level = 'a' and foo",
    "thing.public = user.@foo",
    "thing.owner in user.team.@foo",
    "@foo.bar = thing.foo",
    "some thing.level as @verylongn (foo)",
    "@some thing.level as m (foo)",
    "@some thing.team as m (m.foo)",
    "some thing.team.members as m (@m and m.foo)",
    "true or not (thing.public and (@thing.owner or foo))",
]
LATER = [
    # A walk within another one ranges over a later table.
    "some thing.org.teams as t (@some t.org.teams as s (true))",
    "some thing.org.teams as t (not (true and @no thing.org.teams as s (true)))",
    "some thing.org.teams as t (some t.members as m (@some t.members as n (true)))",
    "some thing.org.teams as t (some t.members as m (@some t.org.teams as n (true)))",
    "some thing.org.teams as t (@t in thing.org.teams)",
    "some thing.org.teams as t (some t.members as m (not @m not in t.members))",
    "some thing.org.teams as t (some t.members as m (@t.org in t.org.teams.org))",
    # Names and fitting go ahead of it, and it goes ahead of what stands behind it.
    "some thing.org.teams as t (some t.org.teams as @t (true))",
    "some thing.org.teams as t (@some t.org.teams as s (foo))",
    "some thing.org.teams as t (@thing in t.org.teams)",
    "some thing.org.teams as t (t in t.org.@foo)",
]
RIGHT = [
    "some thing.org.teams as t (some t.members as m (some m.notes as n (n.public)))",
    "some thing.org.teams as t (true) and some thing.org.teams as s (true)",
    "thing.org in thing.org.teams.org and thing.nick in thing.org.teams.org.name",
    "some thing.org.teams as t (t in t.members.team and some t.members as abcdefgh (true))",
    "some thing.org.teams as teams (teams.size > 0) and thing = user and thing lacks",
    "some thing.org.teams as size (some size.members as org (org.role = thing.nick))",
]

# A sign @ stands in front of the fault of each of these checks.
CHECKS = [
    "return @foo",
    "return thing.@foo",
    "return thing.level.@foo == 7",
    "return @thing.owner",
    "return @thing.level == thing.level",
    "return @thing.owner == thing.team",
    "return @user in ('a')",
    "return @thing.team.members is None",
    "return not (thing.owner is None and @thing.public == 7)",
    # `NAME = path`
    "@verylongn = thing",
    "x = thing\n@x = thing",
    "x = @x",
    "x = thing.@foo",
    "@x = thing.level",
    "@x = user.team.code",
    "@x = thing.team.members",
    "@x = thing.team.members.person",
    "@verylongn = thing.foo",
    "x = thing.owner\nreturn x.@public",
    "return @x.staff\nx = thing.owner",
    "if True:\n    x = thing.owner\nreturn @x.staff",
    "if True:\n    x = thing.owner\nelse:\n    return @x.staff",
    "if True:\n    x = thing.owner\nelse:\n    @x = thing.owner",
    "if True:\n    x = thing.owner\n@x = thing.owner",
    "for m in thing.team.members:\n    x = m.person\nreturn @x.staff",
    "x = thing.owner\nif x.staff:\n    for m in x.places:\n        y = m.team\n        z = x.@foo",
    # `for`
    "for @verylongn in thing.foo:\n    return True",
    "for m in @m.team.members:\n    return True",
    "for m in thing.@members:\n    return foo",
    "@for m in thing.team:\n    return foo",
    "@for m in thing.level:\n    return True",
    "@for m in thing.team.members.person:\n    return True",
    "for m in thing.team.members:\n    return True\nreturn @m.role == 'a'",
    "for m in thing.team.members:\n    return True\nfor @m in thing.team.members:\n    return True",
    "x = thing\nfor @x in thing.team.members:\n    return True",
    "for m in thing.team.members:\n    if @m:\n        return foo",
    # `any` and `all`: their heads first.
    "return any(foo for m in thing.@foo)",
    "return any(foo for @verylongn in thing.foo)",
    "return any(foo for m in @m.team.members)",
    "return @any(foo for m in thing.team)",
    "return @all(foo for m in thing.team.members.person)",
    "return any(@foo for m in thing.team.members)",
    "return all(m.role == 'a' for m in thing.team.members) and @m.role == 'a'",
    "return any(True for m in thing.team.members) or any(True for @m in thing.team.members)",
    "return any(any(True for @m in thing.team.members) for m in thing.team.members)",
    "return any(@m for m in thing.team.members)",
    # Square brackets: the left path, the head, the path in front, then the ends.
    "return @foo in [bar for m in baz]",
    "return thing.@foo in [bar for m in baz]",
    "return user in [bar for @verylongn in baz]",
    "return user in [bar for m in @baz]",
    "return user in [bar for m in thing.team.@baz]",
    "return @user in [bar for m in thing.team]",
    "return @user in [bar for m in thing.team.members.person]",
    "return user in [@bar for m in thing.team.members]",
    "return user in [m.@bar for m in thing.team.members]",
    "return user in [m.role.@bar for m in thing.team.members]",
    "return @user in [m for m in thing.team.members]",
    "return @user in [m.role for m in thing.team.members]",
    "return @user in [user for m in thing.team.members]",
    "return @user in [thing.owner for m in thing.team.members]",
    "return @user in [m.team.members for m in thing.team.members]",
    "return @user in [m.team.members.person for m in thing.team.members]",
    "return @thing.team.members.person in [m.person for m in thing.team.members]",
    "return thing.team.members.person in [m.person for m in thing.team.@foo]",
    "return @m.person in [m.person for m in thing.team.members]",
    "return user in [m.person for m in thing.team.members] and @m.role == 'a'",
    "return @thing.public in [m.person.staff for m in thing.team.members]",
    "return @thing.level not in [m.role for m in thing.team.members]",
    # `return` within a `for`, behind its own parts.
    "for m in thing.team.members:\n    @return m.role == 'a'",
    "for m in thing.team.members:\n    return @foo",
    "for m in thing.team.members:\n    @return (True)",
    "for m in thing.team.members:\n    @return not True",
    "for m in thing.team.members:\n    @return True or True",
    "for m in thing.team.members:\n    @return True and False",
    "for m in thing.team.members:\n    if m.role == 'a':\n        return True\n    else:\n        @return False",
    "for m in thing.team.members:\n    return True\n    @return False",
    "for m in thing.team.members:\n    return False\n    if True:\n        @return True\n    return True",
    # `super` stands in families alone.
    "return @super()",
    "return thing.public or not @super()",
    "return any(@super() for m in thing.team.members)",
    "return thing.@foo or super()",
    # Line by line.
    "x = thing.owner\nreturn x.@foo\nreturn bar",
    "if @foo:\n    return bar\nelse:\n    return baz",
    "if True:\n    return @bar\nelse:\n    return baz",
]
LATER_CHECKS = [
    "for t in thing.org.teams:\n    if t.size == 3:\n        return True\n    for m in t.members:\n        @return False",
    "for t in thing.org.teams:\n    for m in t.members:\n        return False\n    @return True",
    "for t in thing.org.teams:\n    @for s in thing.org.teams:\n        return True",
    "for t in thing.org.teams:\n    for m in t.members:\n        if @t in [s for s in thing.org.teams]:\n            return True",
    "for t in thing.org.teams:\n    if @any(True for s in t.org.teams):\n        return True",
    "for t in thing.org.teams:\n    if all(@any(foo for s in t.members) for m in t.members):\n        return True",
    "return any(@t in [s for s in thing.org.teams] for t in thing.org.teams)",
    "return any(@thing.nick in [bar for s in thing.org.teams] for t in thing.org.teams)",
    "return any(thing.nick in [bar for s in thing.org.@foo] for t in thing.org.teams)",
    "for t in thing.org.teams:\n    for m in t.members:\n        for n in m.notes:\n            @for o in m.notes:\n                return foo",
    "for t in thing.org.teams:\n    if True:\n        x = t.org\n        @for s in x.teams:\n            return foo",
]
RIGHT_CHECKS = [
    "for t in thing.org.teams:\n    return True\nfor s in thing.org.teams:\n    return False",
    "for t in thing.org.teams:\n    for m in t.members:\n        return True\n    return True\nreturn thing == user",
    "x = thing.org\nif x is None:\n    y = x\n    return y == x\nelse:\n    z = x\n    return z.open",
    "return thing.nick in [m.org.name for m in thing.org.teams]",
    "for t in thing.org.teams:\n    x = t\nreturn any(all(n.role is None for n in m.members) for m in thing.org.teams)",
]


def marked(text):
    """A text without its mark, and the line and the position of the mark."""
    before = text[:text.index("@")]
    return text.replace("@", "", 1), before.count("\n"), len(before) - before.rfind("\n") - 1


class QuestionTest(unittest.TestCase):
    def check(self, schema, table, text):
        spelling, _, at = marked(text)
        self.assertNotIn("@", spelling)
        with self.assertRaises(BadQuestion, msg=spelling) as caught:
            Question(schema, table, spelling)
        self.assertEqual(caught.exception.at, at, text)

    def test_first_faults(self):
        for text in QUESTIONS:
            self.check(example(), "doc", text)

    def test_walks_over_no_later_table(self):
        for text in LATER:
            self.check(deep(), "person", text)

    def test_what_is_right(self):
        for text in RIGHT:
            self.assertEqual(Question(deep(), "person", text).text, text)

    def test_the_thing_is_of_the_table_and_the_user_of_the_user_table(self):
        Question(loose("b"), "a", "user.x = thing and thing.f")
        self.check(loose("b"), "b", "thing.x = user.y and thing.@f")
        self.check(loose("a"), "b", "@thing = user")


class CheckTest(unittest.TestCase):
    def check(self, schema, table, text):
        spelling, line, at = marked(text)
        self.assertNotIn("@", spelling)
        with self.assertRaises(BadCheck, msg=spelling) as caught:
            Check(schema, table, spelling)
        self.assertEqual((caught.exception.line, caught.exception.at), (line, at), text)

    def test_first_faults(self):
        for text in CHECKS:
            self.check(example(), "doc", text)

    def test_walks_over_no_later_table(self):
        for text in LATER_CHECKS:
            self.check(deep(), "person", text)

    def test_what_is_right(self):
        for text in RIGHT_CHECKS:
            self.assertEqual(Check(deep(), "person", text).text, text)


class SpoiledNamesTest(unittest.TestCase):
    """Right texts in which one name is exchanged for one that nothing has."""

    def test_one_wrong_name(self):
        for chance in chances(600):
            schema = some_schema(chance)
            uses = {"has": some_spelled(chance, schema, "question", 1)}
            language = chance.choice(["question", "check"])
            made = some_spelled(chance, schema, language, chance.randint(2, 6), uses)
            places = self.places(made.text)
            if not places:
                continue
            line, start, end = chance.choice(places)
            lines = made.text.split("\n")
            lines[line] = lines[line][:start] + "notaname" + lines[line][end:]
            rights = {name: used.right for name, used in uses.items()}
            with self.assertRaises((BadQuestion, BadCheck)) as caught:
                (Question if language == "question" else Check)(schema, made.table, "\n".join(lines), uses=rights)
            found = (0 if language == "question" else caught.exception.line, caught.exception.at)
            self.assertEqual(found, (line, start), "\n".join(lines))

    def places(self, text):
        """The names of paths and used rights: a line, the beginning and the end."""
        found = []
        for number, line in enumerate(text.split("\n")):
            tokens = list(TOKEN.finditer(line))
            for at, token in enumerate(tokens):
                before = tokens[at - 1].group() if at else ""
                behind = tokens[at + 1].group() if at + 1 < len(tokens) else ""
                is_path = before == "." or (token.group() in ("thing", "user") and before != ".")
                if is_path or (token.group() == "has" and behind == "("):
                    found.append((number, token.start(), token.end()))
        return found
