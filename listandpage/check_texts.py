"""Reading the texts of checks, line by line."""

from listandpage.reading import ReadLine, Reader
from listandpage.syntax import Asked, Branching, Giving, Looped, Looping, Naming, Super, Walked
from listandpage.tokens import Fault, read_tokens

MOST_LINES = 20
STEP = 4


class LineReader(Reader):
    """Reads the tokens of a line of a check."""

    EQUAL = "=="
    TRUE = "True"
    FALSE = "False"
    WALKS = ("any", "all")

    def read_atom(self):
        """An atom."""
        if self.ahead() != "super":
            return super().read_atom()
        word = self.step()
        self.skip("(")
        self.skip(")")
        return Super(word)

    def read_walk(self):
        """`any` or `all` with its brackets."""
        word = self.step()
        self.skip("(")
        inner = self.read_joined()
        name, head = self.read_head()
        self.skip(")")
        return Walked(word, head, name, inner)

    def read_head(self):
        """The name and the path of a walk."""
        self.skip("for")
        name = self.read_name()
        self.skip("in")
        return name, self.read_path()

    def read_within(self, left, denied):
        """What stands behind `in`: written words or square brackets."""
        if self.takes("("):
            return self.read_words(left, denied)
        self.skip("[")
        end = self.read_path()
        name, head = self.read_head()
        self.skip("]")
        return Asked(left, "looped", "in", Looped(end, name, head), denied)

    def read_ending(self, left):
        """A test of one path alone."""
        if not self.takes("is"):
            return Asked(left, "flag", "", None, False)
        denied = self.takes("not")
        self.skip("None")
        return Asked(left, "lacks", "is", None, denied)

    def read_statement(self):
        """A statement without its block, other than `else`."""
        if self.ahead() == "if":
            word = self.step()
            test = self.read_joined()
            self.skip(":")
            return Branching(word.line, test)
        if self.ahead() == "for":
            word = self.tokens[self.place]
            name, head = self.read_head()
            self.skip(":")
            return Looping(word, name, head)
        if self.ahead() == "return":
            return self.read_return()
        name = self.read_name()
        self.skip("=")
        return Naming(name, self.read_path())

    def read_return(self):
        """`return` with its test."""
        word = self.step()
        begin = self.place
        test = self.read_joined()
        alone = self.place == begin + 1 and self.tokens[begin].text in (self.TRUE, self.FALSE)
        return Giving(word, test, alone)


class CheckText:
    """The text of a check: its statements, and its lines."""

    def __init__(self, text):
        if not isinstance(text, str):
            raise Fault(-1, -1)
        self.program = []
        self.lines_read = []
        # The blocks that a line may go on, outermost first; at_block tells that the innermost must begin.
        self._blocks = [self.program]
        self._at_block = True
        lines = text.split("\n")
        for number, line in enumerate(lines):
            self._read_line(number, line)
        if self._at_block:
            raise Fault(len(lines), 0)

    def _read_line(self, number, line):
        """Read a line and put its statement into its block."""
        width = len(line) - len(line.lstrip(" "))
        if number == MOST_LINES or not self._may_stand(width):
            raise Fault(number, 0)
        depth = width // STEP
        del self._blocks[depth + 1:]
        self._at_block = False
        reader = LineReader(read_tokens(line, number))
        if reader.ahead() == "else":
            self._read_else(reader, self._blocks[depth])
        else:
            self._read_statement(reader, self._blocks[depth])
        reader.skip("")
        self.lines_read.append(ReadLine(width, reader))

    def _may_stand(self, width):
        """Whether a line with so many spaces in front may stand here."""
        deepest = len(self._blocks) - 1
        if self._at_block:
            return width == STEP * deepest
        return width <= STEP * deepest and width % STEP == 0

    def _read_else(self, reader, block):
        """Read an `else`, which needs an `if` without one as the last statement of its block."""
        last = block[-1] if block else None
        reader.need(isinstance(last, Branching) and last.otherwise is None)
        reader.skip("else")
        reader.skip(":")
        last.otherwise = []
        self._begin(last.otherwise)

    def _read_statement(self, reader, block):
        """Read any other statement."""
        statement = reader.read_statement()
        block.append(statement)
        if isinstance(statement, (Branching, Looping)):
            self._begin(statement.block)

    def _begin(self, block):
        """Let a block begin with the next line."""
        self._blocks.append(block)
        self._at_block = True
