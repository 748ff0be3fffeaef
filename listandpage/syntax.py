"""What the texts of questions and checks are read into, before names are looked up.

What may be wrong tells by line and place where it stands: the line, and the index of its
first token in the line.
"""


class Trail:
    """A path as it is written: its names."""

    def __init__(self, names, line, place):
        self.dotted = names
        self.line = line
        self.place = place


class Asked:
    """A test. Its form tells what stands beside the path on the left.

    "flag" and "lacks" (nothing), "paths" (a path), "words" (written words, one or more),
    "number", "list" (a path with a list) and "looped" (square brackets). end is the index
    of the token behind it.
    """

    def __init__(self, left, form, sign, other, denied):
        self.left = left
        self.form = form
        self.sign = sign
        self.other = other
        self.denied = denied
        self.end = 0


class Looped:
    """Square brackets: a path for each row, the name of the row, and the path to the list."""

    def __init__(self, end, name, head):
        self.end = end
        self.name = name
        self.head = head


class Used:
    """The use of another right, by the token of its name, for what a path ends in."""

    def __init__(self, name, trail):
        self.name = name
        self.trail = trail


class Walked:
    """A walk with its word, the path to the list, the name of the row, and what is asked of it."""

    def __init__(self, word, head, name, inner):
        self.word = word
        self.head = head
        self.name = name
        self.inner = inner


class Joined:
    """Several parts, joined by one word."""

    def __init__(self, word, parts):
        self.word = word
        self.parts = parts


class Denied:
    """What stands behind a `not`."""

    def __init__(self, inner):
        self.inner = inner


class Truth:
    """One of the two words for truth values."""

    def __init__(self, truth):
        self.truth = truth


class Super:
    """The check of the next kind, by the token of its word."""

    def __init__(self, word):
        self.word = word


class Branching:
    """`if` with its line, its test, its block, and that of its `else`, None without one."""

    def __init__(self, line, test):
        self.line = line
        self.test = test
        self.block = []
        self.otherwise = None


class Looping:
    """`for` with its word, the name of the row, the path to the list, and its block."""

    def __init__(self, word, name, head):
        self.word = word
        self.name = name
        self.head = head
        self.block = []


class Giving:
    """`return` with its word and its test; bare if behind it stands a truth value alone."""

    def __init__(self, word, test, bare):
        self.word = word
        self.test = test
        self.bare = bare


class Naming:
    """`NAME = path`."""

    def __init__(self, name, trail):
        self.name = name
        self.trail = trail
