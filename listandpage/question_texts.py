"""Reading the texts of questions."""

from listandpage.reading import ReadLine, Reader
from listandpage.syntax import Asked, Walked
from listandpage.tokens import Fault, read_tokens


class QuestionReader(Reader):
    """Reads the tokens of a question."""

    def read_walk(self):
        """`some` or `no` with its head and its brackets."""
        word = self.step()
        head = self.read_path()
        self.skip("as")
        name = self.read_name()
        self.skip("(")
        inner = self.read_joined()
        self.skip(")")
        return Walked(word, head, name, inner)

    def read_within(self, left, denied):
        """What stands behind `in`: written words or a path."""
        if self.takes("("):
            return self.read_words(left, denied)
        return Asked(left, "list", "in", self.read_path(), denied)

    def read_ending(self, left):
        """A test of one path alone."""
        if self.takes("lacks"):
            return Asked(left, "lacks", "lacks", None, False)
        return Asked(left, "flag", "", None, False)


class QuestionText:
    """The text of a question: what it was read into, and its line."""

    def __init__(self, text):
        if not isinstance(text, str):
            raise Fault(0, -1)
        reader = QuestionReader(read_tokens(text, 0))
        self.root = reader.read_joined()
        reader.skip("")
        self.lines_read = [ReadLine(0, reader)]
