"""Reading the texts of questions."""

from listandpage.reading import ReadLine, Reader
from listandpage.syntax import Asked, Walked
from listandpage.tokens import END, find_place, read_tokens


class QuestionReader(Reader):
    """Reads the tokens of a question."""

    def read_walk(self):
        """`some` or `no` with its head and its brackets."""
        word = self.step()
        head = self.read_path()
        self.skip("as")
        name = self.read_name()
        self.skip("(")
        inner = self.read_joined()
        self.skip(")")
        return Walked(word, head, name, inner)

    def read_within(self, left, denied):
        """What stands behind `in`: written words or a path."""
        if self.takes("("):
            return self.read_words(left, denied)
        return Asked(left, "list", "in", self.read_path(), denied)

    def read_ending(self, left):
        """A test of one path alone."""
        if self.takes("lacks"):
            return Asked(left, "lacks", "lacks", None, False)
        return Asked(left, "flag", "", None, False)


class QuestionText:
    """The text of a question, a string."""

    def __init__(self, text):
        self.lines_read = [ReadLine(0, text, 0, read_tokens(text, {}))]

    def read_whole(self):
        """What it is read into; Fault if it is no question."""
        reader = QuestionReader(self.lines_read[0])
        root = reader.read_joined()
        reader.skip(END)
        return root

    def position(self, line, place):
        """The position of a token in a line: there is one line."""
        read = self.lines_read[line]
        return find_place(read.text, read.tokens, place)
