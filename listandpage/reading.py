"""Reading what questions and checks have in common, token by token."""

from listandpage.syntax import Asked, Denied, Joined, Trail, Truth, Used
from listandpage.tokens import Fault, is_digits, is_name_token, is_number_token, is_word_token, spell

ORDERS = ("<", "<=", ">", ">=")


class TestPlace:
    """A test that was read from the tokens of a line, and where it begins and ends among these."""

    def __init__(self, begin, end, test):
        self.begin = begin
        self.end = end
        self.test = test


class ReadLine:
    """A line that was read: its indentation, its tokens and its tests."""

    def __init__(self, width, reader):
        self.width = width
        self.tokens = reader.tokens[:-1]
        self.places = list(reader.tests_read)

    def spelled(self):
        """The line with one space between two tokens."""
        return " " * self.width + spell(self.tokens)

    def tests_spelled(self):
        """The tests, as they are spelled."""
        return [spell(self.tokens[place.begin:place.end]) for place in self.places]


class Reader:
    """Reads tokens from left to right; the first one that is not allowed is the fault.

    The classes below read by read_walk, read_within and read_ending what differs in the two languages.
    """

    EQUAL = "="
    TRUE = "true"
    FALSE = "false"
    WALKS = ("some", "no")

    def __init__(self, tokens):
        self.tokens = tokens
        self.place = 0
        self.tests_read = []

    def ahead(self):
        """The text of the next token."""
        return self.tokens[self.place].text

    def need(self, allowed):
        """Raise Fault at the next token unless it is allowed there."""
        if not allowed:
            token = self.tokens[self.place]
            raise Fault(token.line, token.at)

    def step(self):
        """Go behind the next token and return it."""
        token = self.tokens[self.place]
        self.place += 1
        return token

    def takes(self, text):
        """Go behind the next token if it is this one; tell whether it was."""
        if self.ahead() != text:
            return False
        self.place += 1
        return True

    def skip(self, text):
        """Go behind the next token, which must be this one."""
        self.need(self.takes(text))

    def read_name(self):
        """The token of a name."""
        self.need(is_name_token(self.ahead()))
        return self.step()

    def read_path(self):
        """A path."""
        self.need(self.ahead() in ("thing", "user") or is_name_token(self.ahead()))
        tokens = [self.step()]
        while self.takes("."):
            tokens.append(self.read_name())
        return Trail(tokens)

    def read_joined(self):
        """Parts joined by `or`."""
        parts = [self.read_part()]
        while self.takes("or"):
            parts.append(self.read_part())
        return Joined("or", parts)

    def read_part(self):
        """Atoms joined by `and`."""
        parts = [self.read_atom()]
        while self.takes("and"):
            parts.append(self.read_atom())
        return Joined("and", parts)

    def read_atom(self):
        """An atom."""
        if self.takes("not"):
            return Denied(self.read_atom())
        if self.takes("("):
            inner = self.read_joined()
            self.skip(")")
            return inner
        if self.ahead() in (self.TRUE, self.FALSE):
            return Truth(self.step().text == self.TRUE)
        if self.ahead() in self.WALKS:
            return self.read_walk()
        if is_name_token(self.ahead()) and self.tokens[self.place + 1].text == "(":
            return self.read_use()
        return self.read_test()

    def read_use(self):
        """The use of another right."""
        name = self.read_name()
        self.skip("(")
        trail = self.read_path()
        self.skip(")")
        return Used(name, trail)

    def read_test(self):
        """A test; its place is kept."""
        begin = self.place
        test = self.read_sign(self.read_path())
        self.tests_read.append(TestPlace(begin, self.place, test))
        return test

    def read_sign(self, left):
        """What stands behind the first path of a test."""
        sign = self.ahead()
        if sign in (self.EQUAL, "!="):
            self.step()
            return self.read_equal(left, sign == "!=")
        if sign in ORDERS:
            self.step()
            return Asked(left, "number", sign, self.read_number(), False)
        if sign not in ("in", "not"):
            return self.read_ending(left)
        denied = self.takes("not")
        self.skip("in")
        return self.read_within(left, denied)

    def read_equal(self, left, denied):
        """What a path is compared with: a word, a number or a path."""
        if is_word_token(self.ahead()):
            return Asked(left, "words", "=", [self.read_word()], denied)
        if is_digits(self.ahead()):
            return Asked(left, "number", "=", self.read_number(), denied)
        return Asked(left, "paths", "=", self.read_path(), denied)

    def read_word(self):
        """A word between apostrophes, without these."""
        self.need(is_word_token(self.ahead()))
        return self.step().text[1:-1]

    def read_number(self):
        """A number."""
        self.need(is_number_token(self.ahead()))
        return int(self.step().text)

    def read_words(self, left, denied):
        """The written words behind `in` and a bracket."""
        words = [self.read_word()]
        while self.takes(","):
            words.append(self.read_word())
        self.skip(")")
        return Asked(left, "words", "in", words, denied)
