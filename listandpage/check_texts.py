"""Reading the texts of checks, line by line."""

from listandpage.reading import ReadLine, Reader
from listandpage.syntax import Asked, Branching, Giving, Looped, Looping, Naming, Super, Truth, Walked
from listandpage.tokens import END, Fault, Token, find_place, read_tokens

MOST_LINES = 20
STEP = 4


class LineReader(Reader):
    """Reads the tokens of a line of a check."""

    EQUAL = "=="
    TRUE = "True"
    FALSE = "False"
    WALKS = ("any", "all", "super")

    def read_walk(self):
        """`any` or `all` with its brackets, or `super()`."""
        word = self.step()
        self.skip("(")
        if word.text == "super":
            self.skip(")")
            return Super(word)
        inner = self.read_joined()
        name, head = self.read_head()
        self.skip(")")
        return Walked(word, head, name, inner)

    def read_head(self):
        """The name and the path of a walk."""
        self.skip("for")
        name = self.read_name()
        self.skip("in")
        return name, self.read_path()

    def read_within(self, left, denied):
        """What stands behind `in`: written words or square brackets."""
        if self.takes("("):
            return self.read_words(left, denied)
        self.skip("[")
        end = self.read_path()
        name, head = self.read_head()
        self.skip("]")
        return Asked(left, "looped", "in", Looped(end, name, head), denied)

    def read_ending(self, left):
        """A test of one path alone."""
        if not self.takes("is"):
            return Asked(left, "flag", "", None, False)
        denied = self.takes("not")
        self.skip("None")
        return Asked(left, "lacks", "is", None, denied)

    def read_statement(self):
        """A statement without its block, other than `else`."""
        if self.ahead() == "if":
            word = self.step()
            test = self.read_joined()
            self.skip(":")
            return Branching(word.line, test)
        if self.ahead() == "for":
            begin = self.place
            name, head = self.read_head()
            self.skip(":")
            return Looping(Token("for", self.number, begin), name, head)
        if self.ahead() == "return":
            return self.read_return()
        name = self.read_name()
        self.skip("=")
        return Naming(name, self.read_path())

    def read_return(self):
        """`return` with its test."""
        word = self.step()
        begin = self.place
        test = self.read_joined()
        return Giving(word, test, isinstance(test, Truth) and self.place == begin + 1)


class CheckText:
    """The text of a check, a string."""

    def __init__(self, text):
        self.lines = text.split("\n")
        self.lines_read = []
        self.known = {}
        # The blocks that a line may go on, outermost first; at_block tells that the innermost must begin.
        self.blocks = [[]]
        self.at_block = True

    def read_whole(self):
        """The statements of the check; Fault if it is none."""
        for number, line in enumerate(self.lines):
            self.read_line(number, line)
        if self.at_block:
            raise Fault(len(self.lines), -1)
        return self.blocks[0]

    def position(self, line, place):
        """The position of a token in a line, 0 for the line as a whole."""
        if place < 0:
            return 0
        read = self.lines_read[line]
        return find_place(read.text, read.tokens, place)

    def read_line(self, number, text):
        """Read a line and put its statement into its block."""
        width = len(text) - len(text.lstrip(" "))
        if number == MOST_LINES or not self.may_stand(width):
            raise Fault(number, -1)
        depth = width // STEP
        del self.blocks[depth + 1:]
        self.at_block = False
        line = ReadLine(number, text, width, read_tokens(text, self.known))
        self.lines_read.append(line)
        reader = LineReader(line)
        if reader.ahead() == "else":
            self.read_else(reader, self.blocks[depth])
        else:
            self.add_statement(reader, self.blocks[depth])
        reader.skip(END)

    def may_stand(self, width):
        """Whether a line with so many spaces in front may stand here."""
        deepest = len(self.blocks) - 1
        if self.at_block:
            return width == STEP * deepest
        return width <= STEP * deepest and width % STEP == 0

    def read_else(self, reader, block):
        """Read an `else`, which needs an `if` without one as the last statement of its block."""
        last = block[-1] if block else None
        reader.need(isinstance(last, Branching) and last.otherwise is None)
        reader.skip("else")
        reader.skip(":")
        last.otherwise = []
        self.begin(last.otherwise)

    def add_statement(self, reader, block):
        """Read any other statement."""
        statement = reader.read_statement()
        block.append(statement)
        if isinstance(statement, (Branching, Looping)):
            self.begin(statement.block)

    def begin(self, block):
        """Let a block begin with the next line."""
        self.blocks.append(block)
        self.at_block = True
