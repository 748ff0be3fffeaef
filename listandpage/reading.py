"""Reading what questions and checks have in common, token by token."""

from listandpage.syntax import Asked, Denied, Joined, Trail, Truth, Used
from listandpage.tokens import END, Fault, Token, is_digits, is_name_token, is_number_token, is_word_token, spell

ORDERS = ("<", "<=", ">", ">=")


class ReadLine:
    """A line: its number, its text, its indentation, its tokens, and the tests that were read from these."""

    def __init__(self, number, text, width, tokens):
        self.number = number
        self.text = text
        self.width = width
        self.tokens = tokens
        self.tests_read = []

    def spelled(self):
        """The line with one space between two tokens."""
        return " " * self.width + spell(self.tokens)

    def test_spelled(self, test):
        """One of its tests, as it is spelled."""
        return spell(self.tokens[test.left.place:test.end])

    def tests_spelled(self):
        """The tests, as they are spelled."""
        return [self.test_spelled(test) for test in self.tests_read]


class Reader:
    """Reads the tokens of a line from left to right; the first one that is not allowed is the fault.

    The classes below read by read_walk, read_within and read_ending what differs in the two languages.
    """

    EQUAL = "="
    TRUE = "true"
    FALSE = "false"
    WALKS = ("some", "no")

    def __init__(self, line):
        self.number = line.number
        # Two ends, so that behind each token there is another one.
        self.tokens = [*line.tokens, END, END]
        self.place = 0
        self.tests_read = line.tests_read

    def ahead(self):
        """The next token."""
        return self.tokens[self.place]

    def need(self, allowed):
        """Raise Fault at the next token unless it is allowed there."""
        if not allowed:
            raise Fault(self.number, self.place)

    def step(self):
        """Go behind the next token and return it with its place."""
        self.place += 1
        return Token(self.tokens[self.place - 1], self.number, self.place - 1)

    def takes(self, text):
        """Go behind the next token if it is this one; tell whether it was."""
        if self.tokens[self.place] != text:
            return False
        self.place += 1
        return True

    def skip(self, text):
        """Go behind the next token, which must be this one."""
        self.need(self.takes(text))

    def read_name(self):
        """The token of a name."""
        self.need(is_name_token(self.ahead()))
        return self.step()

    def read_path(self):
        """A path."""
        tokens = self.tokens
        begin = self.place
        self.need(tokens[begin] in ("thing", "user") or is_name_token(tokens[begin]))
        self.place += 1
        while tokens[self.place] == ".":
            self.place += 1
            self.need(is_name_token(tokens[self.place]))
            self.place += 1
        return Trail(tuple(tokens[begin:self.place:2]), self.number, begin)

    def read_joined(self):
        """Parts joined by `or`; a single one stands for itself."""
        first = self.read_part()
        if self.tokens[self.place] != "or":
            return first
        parts = [first]
        while self.takes("or"):
            parts.append(self.read_part())
        return Joined("or", parts)

    def read_part(self):
        """Atoms joined by `and`; a single one stands for itself."""
        first = self.read_atom()
        if self.tokens[self.place] != "and":
            return first
        parts = [first]
        while self.takes("and"):
            parts.append(self.read_atom())
        return Joined("and", parts)

    def read_atom(self):
        """An atom."""
        token = self.tokens[self.place]
        if token == self.TRUE or token == self.FALSE:
            self.place += 1
            return Truth(token == self.TRUE)
        if token in self.WALKS:
            return self.read_walk()
        if token == "not":
            self.place += 1
            return Denied(self.read_atom())
        if token == "(":
            self.place += 1
            inner = self.read_joined()
            self.skip(")")
            return inner
        if self.tokens[self.place + 1] == "(" and is_name_token(token):
            return self.read_use()
        return self.read_test()

    def read_use(self):
        """The use of another right."""
        name = self.read_name()
        self.skip("(")
        trail = self.read_path()
        self.skip(")")
        return Used(name, trail)

    def read_test(self):
        """A test; it is kept."""
        test = self.read_sign(self.read_path())
        test.end = self.place
        self.tests_read.append(test)
        return test

    def read_sign(self, left):
        """What stands behind the first path of a test."""
        sign = self.tokens[self.place]
        if sign == self.EQUAL or sign == "!=":
            self.place += 1
            return self.read_equal(left, sign == "!=")
        if sign in ORDERS:
            self.place += 1
            return Asked(left, "number", sign, self.read_number(), False)
        if sign != "in" and sign != "not":
            return self.read_ending(left)
        denied = self.takes("not")
        self.skip("in")
        return self.read_within(left, denied)

    def read_equal(self, left, denied):
        """What a path is compared with: a word, a number or a path."""
        if is_word_token(self.ahead()):
            return Asked(left, "words", "=", (self.step().text[1:-1],), denied)
        if is_digits(self.ahead()):
            return Asked(left, "number", "=", self.read_number(), denied)
        return Asked(left, "paths", "=", self.read_path(), denied)

    def read_number(self):
        """A number."""
        self.need(is_number_token(self.ahead()))
        return int(self.step().text)

    def read_words(self, left, denied):
        """The written words behind `in` and a bracket."""
        tokens = self.tokens
        words = []
        reading = True
        while reading:
            token = tokens[self.place]
            self.need(is_word_token(token))
            words.append(token[1:-1])
            reading = tokens[self.place + 1] == ","
            self.place += 2
        self.place -= 1
        self.skip(")")
        return Asked(left, "words", "in", tuple(words), denied)
