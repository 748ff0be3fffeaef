"""Texts that are no questions or checks by their tokens alone."""

import unittest

from listandpage.checks import Check
from listandpage.errors import BadCheck, BadQuestion, ListandpageError
from listandpage.questions import Question
from listandpage.schemas import Schema
from tests.grammar import TOKEN, check_fault, question_fault
from tests.meanings import some_spelled
from tests.samples import NO_TEXTS, chances, example, some_schema

# Behind each text the position of its fault.
QUESTIONS = [
    ("", 0),
    ("   ", 3),
    ("thing.public and", 16),
    ("thing.public and ", 17),
    ("thing.public or or true", 16),
    ("and true", 0),
    ("not", 3),
    ("not and", 4),
    ("(true", 5),
    ("true)", 4),
    ("()", 1),
    ("true false", 5),
    ("thing.", 6),
    ("thing..public", 6),
    ("thing .public . ", 16),
    (".public", 0),
    ("thing.user", 6),
    ("thing.Public", 6),
    ("Thing.public", 0),
    ("True", 0),
    ("thing.level == 7", 12),
    ("thing.level =! 7", 13),
    ("thing.level ! = 7", 12),
    ("thing.level < = 7", 14),
    ("thing.level <> 7", 13),
    ("thing.level = 07", 14),
    ("thing.level = 00", 14),
    ("thing.level = 1234567890123", 14),
    ("thing.level = -1", 14),
    ("thing.level = 1 2", 16),
    ("thing.level < 'a'", 14),
    ("thing.level < thing.level", 14),
    ("user.team.code = 'abcdefghi'", 17),
    ("user.team.code = ''", 17),
    ("user.team.code = 'red", 17),
    ("user.team.code = 'Red'", 17),
    ("user.team.code = ' red'", 17),
    ("user.team.code = 'red' 'a'", 23),
    ("user.team.code in ()", 19),
    ("user.team.code in ('a',)", 23),
    ("user.team.code in ('a' 'b')", 23),
    ("user.team.code in ('a', 7)", 24),
    ("user.team.code in 'a'", 18),
    ("user.team.code in ['a']", 18),
    ("user.team.code not = 'a'", 19),
    ("user.team.code not", 18),
    ("user.team.code not in", 21),
    ("thing.team lacks lacks", 17),
    ("thing.team not lacks", 15),
    ("thing.team is None", 11),
    ("thing = user = thing", 13),
    ("some thing.team.members (true)", 24),
    ("some thing.team.members as m true", 29),
    ("some thing.team.members as m ()", 30),
    ("some thing.team.members as m (true", 34),
    ("some thing.team.members as user (true)", 27),
    ("some thing.team.members as M (true)", 27),
    ("some (true)", 5),
    ("no as m (true)", 3),
    ("some some", 5),
    ("used()", 5),
    ("used(true)", 5),
    ("used(thing", 10),
    ("used(thing, user)", 10),
    ("used (thing) (user)", 13),
    ("thing(user)", 5),
    ("super()", 0),
    ("any(true for m in thing.team.members)", 0),
    ("thing.public\n", 12),
    ("thing.public\tand true", 12),
    ("thing.public @", 13),
    ("# thing", 0),
    ("thing_a", 5),
    ("thing1", 5),
    ("thing 'a'", 6),
    ("7 = thing.level", 0),
    ("'a' = user.team.code", 0),
]

CHECKS = [
    ("", (0, 0)),
    ("    ", (0, 0)),
    (" return True", (0, 0)),
    ("return", (0, 6)),
    ("return true", (0, 7)),
    ("return True and", (0, 15)),
    ("return True\n", (1, 0)),
    ("return True\n\nreturn True", (1, 0)),
    ("return True\n  ", (1, 0)),
    ("return True\n    return True", (1, 0)),
    ("return True\n return True", (1, 0)),
    ("True", (0, 0)),
    ("thing.public", (0, 0)),
    ("x", (0, 1)),
    ("x.a = thing", (0, 1)),
    ("x == thing", (0, 2)),
    ("x = True", (0, 4)),
    ("x = thing thing", (0, 10)),
    ("thing = user", (0, 0)),
    ("if True", (0, 7)),
    ("if True:", (1, 0)),
    ("if True: return True", (0, 9)),
    ("if :", (0, 3)),
    ("if True:\nreturn True", (1, 0)),
    ("if True:\n        return True", (1, 0)),
    ("if True:\n   return True", (1, 0)),
    ("if True:\n    ", (1, 4)),
    ("if True:\n    return True\n  return True", (2, 0)),
    ("if True:\n    return True\n     return True", (2, 0)),
    ("if True:\n    return True\n    \nreturn True", (2, 4)),
    ("if True:\n    return True\nelse", (2, 4)),
    ("if True:\n    return True\nelse:", (3, 0)),
    ("if True:\n    return True\nelse True:", (2, 5)),
    ("if True:\n    return True\nelse:\n    return True\nelse:\n    return False", (4, 0)),
    ("if True:\n    return True\n    else:\n    return True", (2, 4)),
    ("if True:\n    return True\nx = thing\nelse:\n    return True", (3, 0)),
    ("else:\n    return True", (0, 0)),
    ("else", (0, 0)),
    ("for m in thing.team.members:\n    return True\nelse:\n    return True", (2, 0)),
    ("for m in thing.team.members:\n    if True:\n        return True\nelse:\n    return False", (3, 0)),
    ("if True:\n    for m in thing.team.members:\n        return True\n    else:\n        return True", (3, 4)),
    ("for m thing.team.members:", (0, 6)),
    ("for in thing.team.members:", (0, 4)),
    ("for m in [thing]:", (0, 9)),
    ("for m in thing.team.members:\n    if m.role == 'a'\n    @", (1, 20)),
    ("elif True:", (0, 5)),
    ("return thing.level = 7", (0, 19)),
    ("return thing.team is none", (0, 21)),
    ("return thing.team is not", (0, 24)),
    ("return thing.team is not not None", (0, 25)),
    ("return thing.team lacks", (0, 18)),
    ("return thing.team != None", (0, 21)),
    ("return user in thing.team.members", (0, 15)),
    ("return user in [user]", (0, 20)),
    ("return user in [m.person for m in thing.team.members", (0, 52)),
    ("return user in [m.person for m in thing.team.members)", (0, 52)),
    ("return user in ('a', m)", (0, 21)),
    ("return any(True)", (0, 15)),
    ("return any True for m in thing", (0, 11)),
    ("return any(for m in thing.team.members)", (0, 11)),
    ("return any(True for m in thing.team.members", (0, 43)),
    ("return all(True for thing in thing.team.members)", (0, 20)),
    ("return super", (0, 12)),
    ("return super(thing)", (0, 13)),
    ("return super.a", (0, 12)),
    ("return some thing.team.members as m (True)", (0, 7)),
    ("return 'a'", (0, 7)),
    ("return thing.level == 01", (0, 22)),
    ("return thing.level == 1234567890123", (0, 22)),
    ("return user.team.code == 'abcdefghi'", (0, 25)),
    ("return True;", (0, 11)),
    ("return True # thing", (0, 12)),
    ("\treturn True", (0, 0)),
    ("return\tTrue", (0, 6)),
    ("x = thing\n" * 20 + "@", (20, 0)),
    ("x = thing\n" * 20, (20, 0)),
    ("x = thing\n" * 19 + "if True:", (20, 0)),
    ("x = thing\n" * 19 + "if True:\n    return True", (20, 0)),
    # The lines are read in order, ahead of all names.
    ("x = nothing\nreturn", (1, 6)),
    ("x = nothing\n  return", (1, 0)),
    ("return @\n" + "x = thing\n" * 30, (0, 7)),
]

# What is put into texts to make them wrong.
ODD = (
    "and or not ( ) true false some no as in = != < >= 'a' 7 007 0 1234567890123 'abcdefghi' ' ! [ ] , . : lacks is None "
    "True any for return if else thing user x X @ - super longlonglong == \n \n        if:"
).split(" ")


class QuestionTest(unittest.TestCase):
    def fault(self, text):
        with self.assertRaises(BadQuestion) as caught:
            Question(example(), "doc", text)
        self.assertIsInstance(caught.exception, ListandpageError)
        return caught.exception.at

    def test_positions(self):
        for text, at in QUESTIONS:
            self.assertEqual(question_fault(text), at, text)
            self.assertEqual(self.fault(text), at, text)

    def test_no_strings(self):
        for text in NO_TEXTS + (example(), Question(example(), "doc", "true"), b"true"):
            self.assertEqual(self.fault(text), -1)

    def test_cut_off_anywhere(self):
        text = "not thing.owner != user or some thing.team.members as m (m.role not in ('a','bc') and m.level <= 12)"
        for size in range(len(text)):
            expected = question_fault(text[:size])
            if expected is not None:
                self.assertEqual(self.fault(text[:size]), expected, text[:size])


class CheckTest(unittest.TestCase):
    def fault(self, text):
        with self.assertRaises(BadCheck) as caught:
            Check(example(), "doc", text)
        self.assertIsInstance(caught.exception, ListandpageError)
        return caught.exception.line, caught.exception.at

    def test_positions(self):
        for text, place in CHECKS:
            self.assertEqual(check_fault(text), place, text)
            self.assertEqual(self.fault(text), place, text)

    def test_no_strings(self):
        for text in NO_TEXTS + (example(), Check(example(), "doc", "return True"), b"return True"):
            self.assertEqual(self.fault(text), (-1, -1))

    def test_cut_off_anywhere(self):
        text = ("x = thing.owner\nfor m in thing.team.members:\n    if m.person == x or m.role not in ('a', 'b'):\n"
                "        return True\n    else :\n        y = m.team\nreturn x is not None and all(n.role == 'a' "
                "for n in thing.team.members) and x in [o.person for o in x.places]")
        for size in range(len(text)):
            expected = check_fault(text[:size])
            if expected is not None:
                self.assertEqual(self.fault(text[:size]), expected, text[:size])

    def test_twenty_lines_are_right(self):
        lines = ["if thing.public:", "    x = thing"] + ["    return True"] * 17 + ["return False"]
        self.assertEqual(str(Check(example(), "doc", "\n".join(lines))).count("\n"), 19)


class SpoiledTest(unittest.TestCase):
    """Right texts in which tokens are left out, put in, exchanged, cut off, against the rules as they are written."""

    def spoiled(self, chance, text):
        tokens = list(TOKEN.finditer(text))
        if not tokens:
            return text
        one, two = sorted([chance.choice(tokens), chance.choice(tokens)], key=lambda token: token.start())
        kind = chance.randrange(6)
        if kind == 0:
            return text[:one.start()] + text[one.end():]
        if kind == 1:
            return text[:one.start()] + " " + chance.choice(ODD) + " " + text[one.start():]
        if kind == 2:
            return text[:one.start()] + chance.choice(ODD) + text[one.end():]
        if kind == 3 and one.end() <= two.start():
            between = text[one.end():two.start()]
            return text[:one.start()] + two.group() + between + one.group() + text[two.end():]
        at = chance.randint(0, len(text))
        return text[:at] if kind == 4 else text[:at] + chance.choice(" .'=!<>()[]aZ0:,@\n") + text[at:]

    def test_spoiled_texts(self):
        faults = 0
        for chance in chances(1500):
            schema = some_schema(chance)
            language = chance.choice(["question", "check"])
            made = some_spelled(chance, schema, language, chance.randint(1, 5))
            text = made.text
            for _ in range(chance.randint(1, 2)):
                text = self.spoiled(chance, text)
            expected = question_fault(text) if language == "question" else check_fault(text)
            if expected is None:
                continue
            faults += 1
            with self.assertRaises((BadQuestion, BadCheck)) as caught:
                (Question if language == "question" else Check)(schema, made.table, text)
            found = caught.exception
            place = found.at if language == "question" else (found.line, found.at)
            self.assertEqual(place, expected, text)
        self.assertGreater(faults, 1000)


class EmptySchemaTest(unittest.TestCase):
    def test_a_text_is_read_ahead_of_its_names(self):
        schema = Schema("a", [("a", [])])
        with self.assertRaises(BadQuestion) as caught:
            Question(schema, "a", "thing.x and y.z = 07")
        self.assertEqual(caught.exception.at, 18)
