"""Schemas written in lines, and lines that are none."""

import re
import unittest

from listandpage.errors import BadLine, BadSchema, ListandpageError
from listandpage.schemas import Schema
from tests.samples import EXAMPLE, EXAMPLE_TABLES, NO_NAMES, chances, example, some_tables

LINE = re.compile(
    "(flag|number) [a-z]+|word [a-z]+[?]?|link [a-z]+[?]? to [a-z]+( as [a-z]+)?", re.ASCII)


def first_bad_line(text):
    """The index of the first line that is not as it must be, None if there is none."""
    tables = 0
    for at, line in enumerate(text.split("\n")):
        if at == 0:
            if not re.fullmatch("user [a-z]+", line):
                return at
        elif re.fullmatch("table [a-z]+", line):
            tables += 1
        elif not tables or not LINE.fullmatch(line):
            return at
    return None


def filled(tables):
    """The same tables, in which nothing is optional."""
    made = []
    for name, columns in tables:
        its = []
        for column in columns:
            if column[0] == "word":
                column = (*column[:2], False)
            if column[0] == "link":
                column = (*column[:3], False, column[4])
            its.append(column)
        made.append((name, its))
    return made


class WrittenTest(unittest.TestCase):
    def test_the_example(self):
        self.assertEqual(str(example()), EXAMPLE)
        self.assertEqual(Schema.read(EXAMPLE), example())

    def test_each_kind_of_line(self):
        schema = Schema("b", [
            ("a", [("flag", "f"), ("number", "n"), ("word", "w", False), ("word", "v", True)]),
            ("b", []),
            ("c", [("link", "k", "a", False, None), ("link", "l", "a", True, None),
                   ("link", "m", "b", False, "s"), ("link", "n", "b", True, "t")]),
        ])
        self.assertEqual(str(schema), "user b\ntable a\nflag f\nnumber n\nword w\nword v?\ntable b\ntable c\n"
                         "link k to a\nlink l? to a\nlink m to b as s\nlink n? to b as t")

    def test_many_schemas(self):
        for chance in chances(300):
            tables = some_tables(chance)
            user = chance.choice(tables)[0]
            schema = Schema(user, tables)
            text = str(schema)
            read = Schema.read(text)
            self.assertEqual(read, schema)
            self.assertEqual(str(read), text)
            self.assertEqual((read.user, read.tables, len(read)), (schema.user, schema.tables, len(schema)))
            for name in schema.tables:
                self.assertEqual(repr(read.columns(name)), repr(schema.columns(name)))
                self.assertEqual(list(read.lists(name).items()), list(schema.lists(name).items()))
            self.assertIsNone(first_bad_line(text))

    def test_words_of_the_lines_as_names(self):
        text = "user table\ntable table\nflag flag\nnumber number\nword word?\ntable to\nlink to? to table as link"
        self.assertEqual(str(Schema.read(text)), text)
        self.assertEqual(Schema.read(text).columns("to"), (("link", "to", "table", True, "link"),))

    def test_read_is_called_off_the_class_and_off_a_schema(self):
        self.assertEqual(example().read("user a\ntable a"), Schema("a", [("a", [])]))
        self.assertIs(type(Schema.read("user a\ntable a")), Schema)


class FilledTest(unittest.TestCase):
    def test_the_example(self):
        schema = example()
        made = schema.filled()
        self.assertIs(type(made), Schema)
        self.assertEqual(str(made), EXAMPLE.replace("?", ""))
        self.assertEqual(str(schema), EXAMPLE)
        self.assertEqual(schema, Schema("person", EXAMPLE_TABLES))

    def test_many_schemas(self):
        for chance in chances(200):
            tables = some_tables(chance)
            schema = Schema(tables[-1][0], tables)
            text = str(schema)
            made = schema.filled()
            self.assertEqual(made, Schema(tables[-1][0], filled(tables)))
            self.assertEqual(str(made), text.replace("?", ""))
            self.assertEqual(str(schema), text)
            for name, columns in tables:
                self.assertEqual(schema.columns(name), tuple(columns))
                self.assertEqual(made.lists(name), schema.lists(name))
            self.assertEqual(made.filled(), made)


class RefusedTest(unittest.TestCase):
    def refused(self, text, line):
        with self.assertRaises(BadLine) as caught:
            Schema.read(text)
        self.assertIs(type(caught.exception), BadLine)
        self.assertIsInstance(caught.exception, ListandpageError)
        self.assertEqual(caught.exception.line, line, repr(text))

    def test_no_strings(self):
        for value in NO_NAMES + (b"user a\ntable a", [EXAMPLE], EXAMPLE.split("\n")):
            if not isinstance(value, str):
                self.refused(value, -1)

    def test_first_lines(self):
        for line in ("", " ", "user", "user ", "User a", "user A", "user a ", " user a", "user  a", "user a b",
                     "user a?", "user a1", "users a", "table a", "flag a", "a", "user\ta"):
            self.refused(line, 0)
            self.refused(line + "\ntable a", 0)
        self.refused("user a\nuser a\ntable a", 1)
        self.refused("user a\ntable a\nuser a", 2)

    def test_columns_ahead_of_the_first_table(self):
        for line in ("flag a", "number a", "word a", "word a?", "link a to a", "link a? to a as b"):
            self.refused("user a\n" + line, 1)
            self.refused("user a\n" + line + "\ntable a", 1)

    def test_line_feeds(self):
        self.refused(EXAMPLE + "\n", 15)
        self.refused("\n" + EXAMPLE, 0)
        self.refused("user a\n\ntable a", 1)
        self.refused("user a\ntable a\n\nflag a", 2)
        self.refused("user a\n", 1)
        self.refused("user a table a", 0)

    def test_other_lines(self):
        for line in (
                "flag", "flag ", "flag a?", "flag A", "flag a b", "flag  a", " flag a", "flag a ", "Flag a", "flag 1",
                "number", "number a?", "number 1", "number a b", "numbers a",
                "word", "word ?", "word a??", "word ?a", "word a ?", "word a? b", "word? a", "word a.", "word a to b",
                "link", "link a", "link a to", "link a to b as", "link to b", "link a to b?", "link a to b as c?",
                "link a b", "link a as b", "link a as c to b", "link a to b c", "link a to b to c", "link a to to b",
                "link a to b as c d", "link ? to b", "link a?? to b", "link a ? to b", "link A to b", "link a to B",
                "link a to b as C", "link a  to b", "link a to  b", "link a to b as  c", "link a to b as c ",
                "link a in b", "link a to b at c", "link a to b as as c", "Link a to b", "link? a to b",
                "table", "table ", "table a b", "table A", "table a?", "table  a", "Table a", " table a",
                "text a", "a", "?", "user a", "flag a, b", "flag a;", "link a1 to b", "link a to b1"):
            self.refused("user a\ntable a\nflag f\n" + line, 3)
            self.refused("user a\ntable a\n" + line + "\ntable b\nwrong", 2)
            self.assertEqual(first_bad_line("user a\ntable a\n" + line), 2, line)

    def test_many_changed_texts(self):
        seen = {"line": 0, "schema": 0, "made": 0}
        for chance in chances(1500):
            tables = some_tables(chance)
            text = self.spoiled(chance, str(Schema(tables[0][0], tables)))
            wrong = first_bad_line(text)
            if wrong is not None:
                seen["line"] += 1
                self.refused(text, wrong)
                continue
            try:
                schema = Schema.read(text)
            except BadSchema:
                seen["schema"] += 1
            else:
                seen["made"] += 1
                self.assertEqual(str(schema), text)
        for kind, count in seen.items():
            self.assertGreater(count, 20, kind)

    def spoiled(self, chance, text):
        """The text with something left out, put in, doubled or exchanged."""
        lines = [line.split(" ") for line in text.split("\n")]
        at = chance.randrange(len(lines))
        deed = chance.randrange(7)
        if deed == 0:
            del lines[at][chance.randrange(len(lines[at]))]
        elif deed == 1:
            words = ["to", "as", "flag", "word", "a", "", "?", "A", "a?", "abcdefghi", "thing", "a1"]
            lines[at].insert(chance.randint(0, len(lines[at])), chance.choice(words))
        elif deed == 2:
            place = chance.randrange(len(lines[at]))
            lines[at].insert(place, lines[at][place])
        elif deed == 3:
            place = chance.randrange(len(lines[at]))
            lines[at][place] = chance.choice(["user", "a", "abcdefghi", "to", "table", "a?", "link", "word"])
        elif deed == 4:
            other = chance.randrange(len(lines))
            lines[at], lines[other] = lines[other], lines[at]
        elif deed == 5:
            lines.insert(at, chance.choice([lines[-1], [""], ["table", "a"], ["flag", "b"]]))
        else:
            whole = "\n".join(" ".join(words) for words in lines)
            place = chance.randint(0, len(whole))
            return whole[:place] + chance.choice(" ?\n1A.ab") + whole[place:]
        return "\n".join(" ".join(words) for words in lines)


class WrongSchemaTest(unittest.TestCase):
    def refused(self, text, table, column):
        with self.assertRaises(BadSchema) as caught:
            Schema.read(text)
        self.assertEqual((caught.exception.table, caught.exception.column), (table, column), text)

    def test_what_is_written_well_but_no_schema(self):
        self.refused("user a", -1, -1)
        self.refused("user a\n" + "\n".join("table " + name for name in "abcdefg"), -1, -1)
        self.refused("user thing\ntable a", 1, -1)
        self.refused("user abcdefghi\ntable a\ntable b", 2, -1)
        self.refused("user b\ntable a", 1, -1)
        self.refused("user thing\ntable thing", 0, -1)
        self.refused("user a\ntable a\ntable a", 1, -1)
        self.refused("user a\ntable a\ntable abcdefghi", 1, -1)
        self.refused("user a\ntable a\n" + "\n".join("flag " + name for name in "abcdefg"), 0, -1)
        self.refused("user a\ntable a\nflag b\nword user?", 0, 1)
        self.refused("user a\ntable a\nflag abcdefghi", 0, 0)
        self.refused("user a\ntable a\nflag b\nnumber b", 0, 1)
        self.refused("user a\ntable a\nlink b to a", 0, 0)
        self.refused("user a\ntable a\ntable b\nlink c to d", 1, 0)
        self.refused("user a\ntable a\ntable b\nlink c to thing", 1, 0)
        self.refused("user a\ntable a\ntable b\nlink c to a as in", 1, 0)
        self.refused("user a\ntable a\ntable b\nlink c to a as abcdefghi", 1, 0)
        self.refused("user a\ntable a\nflag d\ntable b\nflag c\nlink d to a as d", 1, 1)

    def test_lines_are_read_first(self):
        with self.assertRaises(BadLine) as caught:
            Schema.read("user thing\ntable thing\nflag user\nflag")
        self.assertEqual(caught.exception.line, 3)
