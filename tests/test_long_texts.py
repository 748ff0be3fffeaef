"""Texts near the weight of 100, and many words: what they are, where they are wrong, and that they are read fast."""

import time
import unittest

from listandpage.checks import Check
from listandpage.errors import BadCheck, BadQuestion
from listandpage.questions import Question
from tests.samples import example

STAFF = " or ".join(["thing.owner.staff"] * 33)
ROWS = "\n".join(["x = thing", f"if {' and '.join(['True'] * 16)}:", "    return not not False",
                  "return " + " or ".join(["True"] * 80)])
WORDS = "return thing.team.code in (" + ", ".join(["'abcdefgh'"] * 300) + ")"
OTHERS = "thing.team.code not in (" + ",".join(f"'{one}{two}{one}'" for one in "abcdefghijklmno" for two in "abcdefghij") \
    + ")"


class LongTextTest(unittest.TestCase):
    def check(self, made, text, weight, tests):
        right = made(example(), "doc", text)
        self.assertEqual((right.weight(), len(right.tests())), (weight, tests))
        self.assertEqual(made(example(), "doc", str(right)).tests(), right.tests())
        error = BadQuestion if made is Question else BadCheck
        lines = text.split("\n")
        # A new name behind the text, and a place behind its end.
        for behind, at in ((" or late", 4), (" or  late.x", 5), (" or", 3), (" or thing.late", 10), (" ;", 1)):
            with self.assertRaises(error) as caught:
                made(example(), "doc", text + behind)
            self.assertEqual(caught.exception.at, len(lines[-1]) + at)
            if made is Check:
                self.assertEqual(caught.exception.line, len(lines) - 1)

    def test_texts(self):
        self.check(Question, STAFF, 99, 33)
        self.check(Check, "return " + STAFF, 99, 33)
        self.check(Check, ROWS, 97, 0)
        self.check(Check, WORDS, 3, 1)
        self.check(Question, OTHERS, 3, 1)

    def test_time(self):
        begin = time.perf_counter()
        for _ in range(60):
            for made, text in ((Question, STAFF), (Check, "return " + STAFF), (Check, ROWS), (Check, WORDS),
                               (Question, OTHERS)):
                made(example(), "doc", text)
                with self.assertRaises((BadQuestion, BadCheck)):
                    made(example(), "doc", text + " or late")
        # That of a careful reader is below a tenth of this.
        self.assertLess(time.perf_counter() - begin, 2)
