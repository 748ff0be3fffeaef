"""Random questions and checks as trees, and the texts of these.

A tree is a tuple. Connectives: ("or", parts), ("and", parts), ("not", x), ("round", x),
("truth", bool). Tests: ("flag", path), ("lacks", path, denied), ("word", path, denied, word),
("words", path, denied, words), ("number", path, sign, number), ("paths", path, denied, path),
("list", path, denied, path), ("loop", path, denied, end, name, head). Others:
("use", name, path), (word, path, name, x) with "some", "no", "any" or "all". Statements:
("if", x, block, otherwise), ("for", name, path, block), ("return", x), ("let", name, path).
A path is a tuple of names.
"""

from tests.samples import LETTERS, RESERVED, lists_of

WALKS = ("some", "no", "any", "all")
WORDS = ("a", "red", "user", "zz")


class Maker:
    """Makes random trees whose paths and tests fit a schema, given as its tables."""

    def __init__(self, chance, tables, user, language, uses=None):
        self.chance = chance
        self.columns = dict(tables)
        self.order = [name for name, _ in tables]
        self.lists = lists_of(tables)
        self.user = user
        self.language = language
        self.uses = uses or {}
        self.taken = set()

    def new_name(self):
        while True:
            name = "".join(self.chance.choice(LETTERS) for _ in range(self.chance.choice([1, 1, 2, 8])))
            if name not in RESERVED and name not in self.taken:
                self.taken.add(name)
                return name

    def plain(self, names):
        """All paths without a list, up to three names behind the first: (path, kind, table or cell)."""
        found = []
        todo = [((name,), table) for name, table in names.items()]
        while todo:
            path, table = todo.pop()
            found.append((path, "row", table))
            if len(path) > 3:
                continue
            for column in self.columns[table]:
                if column[0] == "link":
                    todo.append((path + (column[1],), column[2]))
                else:
                    found.append((path + (column[1],), column[0], (table, column[1])))
        return found

    def heads(self, names, around):
        """All paths that end with a list of rows of a later table than those of the walks around."""
        found = []
        for path, kind, table in self.plain(names):
            if kind != "row":
                continue
            for name, (maker, _) in self.lists[table].items():
                if not around or self.order.index(maker) > self.order.index(around[-1]):
                    found.append((path + (name,), maker))
        return found

    def pick(self, options):
        return self.chance.choice(options) if options else None

    def test(self, names, around):
        """A test, or None if there is none of the chosen form."""
        forms = ["flag", "lacks", "word", "words", "number", "paths", "paths", "list", "list", "use", "use"]
        form = self.chance.choice(forms)
        denied = self.chance.random() < 0.4
        paths = self.plain(names)
        if form == "use":
            return self.use(names, around)
        if form in ("flag", "lacks"):
            path = self.pick([path for path in paths if form == "lacks" or path[1] == "flag"])
            if path is None:
                return None
            return ("flag", path[0]) if form == "flag" else ("lacks", path[0], denied and self.language == "check")
        if form in ("word", "words", "number"):
            path = self.pick([path for path in paths if path[1] == form.removesuffix("s")])
            if path is None:
                return None
            if form == "word":
                return ("word", path[0], denied, self.chance.choice(WORDS))
            if form == "words":
                words = [self.chance.choice(WORDS) for _ in range(self.chance.randint(1, 3))]
                return ("words", path[0], denied, words)
            sign = self.chance.choice(["=", "!=", "<", "<=", ">", ">="])
            return ("number", path[0], sign, self.chance.choice([0, 3, 4, 5, 10 ** 12 - 1]))
        left = self.pick([path for path in paths if path[1] in ("row", "word")])
        if left is None:
            return None
        if form == "paths":
            other = self.pick([path for path in paths if meets(path, left)])
            return ("paths", left[0], denied, other[0])
        return self.within(names, around, left, denied)

    def within(self, names, around, left, denied):
        """`in` with a list, or with square brackets."""
        options = []
        for head, table in self.heads(names, around):
            for end in self.plain({"row": table}):
                if meets(end, left):
                    options.append((head, end[0][1:]))
        option = self.pick(options)
        if option is None:
            return None
        head, behind = option
        if self.language == "question":
            return ("list", left[0], denied, head + behind)
        name = self.new_name()
        return ("loop", left[0], denied, (name,) + behind, name, head)

    def use(self, names, around):
        """The use of a right."""
        name = self.pick(sorted(self.uses))
        if name is None:
            return None
        used = self.uses[name]
        if around and any(self.order.index(t) <= self.order.index(around[-1]) for t in used.walks()):
            return None
        path = self.pick([path for path in self.plain(names) if path[1:] == ("row", used.table)])
        return path and ("use", name, path[0])

    def question(self, names, around, size):
        """A tree of at most so many leaves."""
        kind = self.chance.choice(["test", "test", "test", "or", "and", "not", "round", "truth", "walk", "walk"])
        if kind in ("or", "and") and size > 1:
            first = self.chance.randint(1, size - 1)
            parts = [self.question(names, around, first), self.question(names, around, size - first)]
            return (kind, [bracketed(part, kind) for part in parts])
        if kind == "not" and self.chance.random() < 0.7:
            return ("not", bracketed(self.question(names, around, size), "not"))
        if kind == "round":
            return ("round", self.question(names, around, size))
        if kind == "truth" and self.chance.random() < 0.4:
            return ("truth", self.chance.random() < 0.5)
        if kind == "walk" and size > 1:
            head = self.pick(self.heads(names, around))
            if head is not None:
                word = self.chance.choice(WALKS[:2] if self.language == "question" else WALKS[2:])
                name = self.new_name()
                inner = self.question({**names, name: head[1]}, around + (head[1],), size - 1)
                return (word, head[0], name, inner)
        for _ in range(20):
            test = self.test(names, around)
            if test is not None:
                return test
        return ("truth", self.chance.random() < 0.5)

    def block(self, names, around, size, truth):
        """Statements in at most so many lines; truth is what returns give within a `for`."""
        names = dict(names)
        statements = []
        while size > 0 and (not statements or self.chance.random() < 0.7):
            made, used = self.statement(names, around, size, truth)
            statements.append(made)
            size -= used
        return statements

    def statement(self, names, around, size, truth):
        """A statement and the number of its lines."""
        kind = self.chance.choice(["if", "if", "for", "for", "return", "let"])
        if kind == "let":
            path = self.pick([path for path in self.plain(names) if path[1] == "row"])
            name = self.new_name()
            names[name] = path[2]
            return ("let", name, path[0]), 1
        if kind == "if" and size > 1:
            test = self.question(names, around, 2)
            block = self.block(names, around, (size - 1) // 2 + (size == 2), truth)
            otherwise = None
            if size > 4 and self.chance.random() < 0.5:
                otherwise = self.block(names, around, (size - 3) // 2, truth)
            return ("if", test, block, otherwise), lines_of(("if", test, block, otherwise))
        if kind == "for" and size > 1:
            head = self.pick(self.heads(names, around))
            if head is not None:
                name = self.new_name()
                inner = {**names, name: head[1]}
                given = truth if around else self.chance.random() < 0.5
                made = ("for", name, head[0], self.block(inner, around + (head[1],), size - 1, given))
                return made, lines_of(made)
        if around:
            return ("return", ("truth", truth)), 1
        return ("return", self.question(names, around, 3)), 1

    def tree(self, table, size):
        """A question, or the block of a check, for things of a table."""
        self.taken = set()
        names = {"thing": table, "user": self.user}
        if self.language == "question":
            return self.question(names, (), size)
        return self.block(names, (), size, None)


def meets(one, two):
    """Whether two paths, with their kinds, may be compared."""
    return one[1:] == two[1:] if two[1] == "row" else one[1] == two[1] == "word"


def bracketed(tree, outer):
    """A part of a connective, in brackets where its own sign binds less."""
    if tree[0] == "or" or (tree[0] == "and" and outer == "not"):
        return ("round", tree)
    return tree


def lines_of(statement):
    """The number of lines of a statement."""
    if statement[0] == "if":
        otherwise = 0 if statement[3] is None else 1 + sum(map(lines_of, statement[3]))
        return 1 + sum(map(lines_of, statement[2])) + otherwise
    return 1 + sum(map(lines_of, statement[3])) if statement[0] == "for" else 1


# The tokens.

def path_tokens(path):
    found = [path[0]]
    for name in path[1:]:
        found += [".", name]
    return found


def word_tokens(words):
    found = ["("]
    for word in words:
        found += [f"'{word}'", ","]
    return found[:-1] + [")"]


def tokens(tree, language, tests):
    """The tokens of a tree; the tokens of each test are added to tests."""
    kind = tree[0]
    if kind in ("or", "and"):
        found = tokens(tree[1][0], language, tests)
        for part in tree[1][1:]:
            found = found + [kind] + tokens(part, language, tests)
        return found
    if kind == "not":
        return ["not"] + tokens(tree[1], language, tests)
    if kind == "round":
        return ["("] + tokens(tree[1], language, tests) + [")"]
    if kind == "truth":
        word = "true" if tree[1] else "false"
        return [word if language == "question" else word.capitalize()]
    if kind == "use":
        return [tree[1], "("] + path_tokens(tree[2]) + [")"]
    if kind in ("some", "no"):
        return [kind] + path_tokens(tree[1]) + ["as", tree[2], "("] + tokens(tree[3], language, tests) + [")"]
    if kind in ("any", "all"):
        inner = tokens(tree[3], language, tests)
        return [kind, "("] + inner + ["for", tree[2], "in"] + path_tokens(tree[1]) + [")"]
    found = path_tokens(tree[1]) + sign_tokens(tree, language)
    tests.append(found)
    return found


def sign_tokens(tree, language):
    """The tokens of a test behind its first path."""
    kind = tree[0]
    equal = "=" if language == "question" else "=="
    if kind == "flag":
        return []
    if kind == "lacks":
        return ["lacks"] if language == "question" else ["is"] + ["not"] * tree[2] + ["None"]
    if kind == "number":
        return [equal if tree[2] == "=" else tree[2], str(tree[3])]
    if kind == "word":
        return ["!=" if tree[2] else equal, f"'{tree[3]}'"]
    if kind == "paths":
        return ["!=" if tree[2] else equal] + path_tokens(tree[3])
    found = ["not"] * tree[2] + ["in"]
    if kind == "words":
        return found + word_tokens(tree[3])
    if kind == "list":
        return found + path_tokens(tree[3])
    return found + ["["] + path_tokens(tree[3]) + ["for", tree[4], "in"] + path_tokens(tree[5]) + ["]"]


def block_lines(block, depth, tests):
    """The lines of a block, pairs of a depth and tokens."""
    found = []
    for statement in block:
        kind = statement[0]
        if kind == "let":
            found.append((depth, [statement[1], "="] + path_tokens(statement[2])))
        elif kind == "return":
            found.append((depth, ["return"] + tokens(statement[1], "check", tests)))
        elif kind == "for":
            found.append((depth, ["for", statement[1], "in"] + path_tokens(statement[2]) + [":"]))
            found += block_lines(statement[3], depth + 1, tests)
        else:
            found.append((depth, ["if"] + tokens(statement[1], "check", tests) + [":"]))
            found += block_lines(statement[2], depth + 1, tests)
            if statement[3] is not None:
                found.append((depth, ["else", ":"]))
                found += block_lines(statement[3], depth + 1, tests)
    return found


def all_lines(tree, language):
    """The lines of a tree, pairs of a depth and tokens, and the tokens of its tests."""
    tests = []
    if language == "question":
        return [(0, tokens(tree, language, tests))], tests
    return block_lines(tree, 0, tests), tests


def spelled(found):
    """Tokens with one space between two of them, but none beside a dot."""
    return " ".join(found).replace(" . ", ".")


def needs_space(one, two):
    """Whether two tokens would be read as one without a space between them."""
    return (one[-1].isalpha() and two[0].isalpha()) or (one[-1].isdigit() and two[0].isdigit())


def written(found, chance=None):
    """Tokens with any spaces that chance gives, or with as few as possible."""
    text = ""
    last = None
    for token in found:
        least = 1 if last is not None and needs_space(last, token) else 0
        text += " " * max(least, chance.choice([0, 0, 1, 1, 3]) if chance and (last or least) else 0) + token
        last = token
    return text


def texts(tree, language, chance=None):
    """The text of a tree with random spaces, its spelling, and the spellings of its tests."""
    lines, tests = all_lines(tree, language)
    text = "\n".join("    " * depth + written(line, chance) for depth, line in lines)
    spelling = "\n".join("    " * depth + spelled(line) for depth, line in lines)
    return text, spelling, [spelled(test) for test in tests]
