"""Plain second spellings of what trees of questions and checks mean and count.

The trees are those of tests.spelled.
"""

from listandpage.checks import Check
from listandpage.questions import Question
from tests.samples import tables_of
from tests.spelled import WALKS, Maker, texts


class Meaning:
    """What trees mean in a store, for rights that are passed as functions of (thing, user)."""

    def __init__(self, store, user, uses):
        self.store = store
        self.user = user
        self.uses = uses

    def ends(self, path, names):
        """What a path ends in: a table (None for a cell) and values, None where it lacks; many with a list.

        names tell for each visible name a table and a row. The rows of an empty list are none.
        """
        table, row = names[path[0]]
        found = [row]
        for name in path[1:]:
            lists = self.store.schema.lists(table)
            if name in lists:
                found = [at for row in found if row is not None for at in self.store.listed(table, row, name)]
                table = lists[name][0]
                continue
            column = {column[1]: column for column in self.store.schema.columns(table)}[name]
            found = [None if row is None else self.store.value(table, row, name) for row in found]
            table = column[2] if column[0] == "link" else None
        return table, found

    def end(self, path, names):
        return self.ends(path, names)[1][0]

    def rows(self, head, name, names):
        """The names within a walk, for each row of its list."""
        table, found = self.ends(head, names)
        return [{**names, name: (table, row)} for row in found]

    def question(self, tree, names):
        """True, False or None."""
        kind = tree[0]
        if kind in ("or", "and"):
            told = [self.question(part, names) for part in tree[1]]
            if (kind == "or") in told:
                return kind == "or"
            return None if None in told else kind == "and"
        if kind == "not":
            return {True: False, False: True, None: None}[self.question(tree[1], names)]
        if kind == "round":
            return self.question(tree[1], names)
        if kind == "truth":
            return tree[1]
        if kind in ("some", "no"):
            found = any(self.question(tree[3], inner) is True for inner in self.rows(tree[1], tree[2], names))
            return found == (kind == "some")
        if kind == "use":
            row = self.end(tree[2], names)
            return None if row is None else self.uses[tree[1]](row, self.user)
        told = self.asked(tree, names)
        return (not told) if told is not None and denied(tree) else told

    def asked(self, tree, names):
        """A test of a question without its `not`."""
        kind = tree[0]
        value = self.end(tree[1], names)
        if kind == "lacks":
            return value is None
        if kind == "list":
            found = self.ends(tree[3], names)[1]
            if any(value is not None and value == end for end in found):
                return True
            return None if found and (value is None or None in found) else False
        if value is None:
            return None
        if kind == "paths":
            other = self.end(tree[3], names)
            return None if other is None else value == other
        return compared(tree, value)

    def check(self, tree, names):
        """True or False."""
        kind = tree[0]
        if kind in ("or", "and"):
            told = [self.check(part, names) for part in tree[1]]
            return any(told) if kind == "or" else all(told)
        if kind == "not":
            return not self.check(tree[1], names)
        if kind == "round":
            return self.check(tree[1], names)
        if kind == "truth":
            return tree[1]
        if kind in ("any", "all"):
            told = [self.check(tree[3], inner) for inner in self.rows(tree[1], tree[2], names)]
            return any(told) if kind == "any" else all(told)
        value = self.end(tree[2 if kind == "use" else 1], names)
        if kind == "use":
            return value is not None and self.uses[tree[1]](value, self.user)
        if kind == "lacks":
            told = value is None
        elif kind == "paths":
            told = value == self.end(tree[3], names)
        elif kind == "loop":
            told = any(value == self.end(tree[3], inner) for inner in self.rows(tree[5], tree[4], names))
        elif value is None:
            told = tree[2:3] == ("!=",)
        else:
            told = compared(tree, value)
        return told != denied(tree)

    def run(self, block, names):
        """What a block returns, None if it runs to its end."""
        names = dict(names)
        for statement in block:
            told = self.begin(statement, names)
            if told is not None:
                return told
        return None

    def begin(self, statement, names):
        """What a statement returns, None if the next one is begun."""
        kind = statement[0]
        if kind == "let":
            names[statement[1]] = (self.ends(statement[2], names)[0], self.end(statement[2], names))
            return None
        if kind == "return":
            return self.check(statement[1], names)
        if kind == "if":
            entered = self.check(statement[1], names)
            return self.run(statement[2] if entered else statement[3] or [], names)
        for inner in self.rows(statement[2], statement[1], names):
            told = self.run(statement[3], inner)
            if told is not None:
                return told
        return None


def denied(tree):
    """Whether a test has a `not` or an exclamation mark; of numbers this is told by the sign."""
    return tree[0] in ("lacks", "word", "words", "paths", "list", "loop") and tree[0:3][-1] is True


def compared(tree, value):
    """A test of a flag, a number or written words, for a value."""
    if tree[0] == "flag":
        return value
    if tree[0] == "word":
        return value == tree[3]
    if tree[0] == "words":
        return value in tree[3]
    sign, number = tree[2:]
    return {
        "=": value == number, "!=": value != number, "<": value < number,
        "<=": value <= number, ">": value > number, ">=": value >= number,
    }[sign]


def value_of(tree, language, table, store, thing, user, uses):
    """What a tree means for a thing and a user: of a question also None."""
    meaning = Meaning(store, user, uses)
    names = {"thing": (table, thing), "user": (store.schema.user, user)}
    if language == "question":
        return meaning.question(tree, names)
    return meaning.run(tree, names) is True


def has_list(schema, tables, path):
    """The table of the list in a path, None without one; tables tell those of the visible names."""
    table = tables[path[0]]
    listed = None
    for name in path[1:]:
        lists = schema.lists(table)
        if name in lists:
            listed = table = lists[name][0]
            continue
        column = {column[1]: column for column in schema.columns(table)}[name]
        table = column[2] if column[0] == "link" else None
    return listed, table


class Count:
    """The weight and the walks of a tree; uses are rights."""

    def __init__(self, schema, table, uses):
        self.schema = schema
        self.uses = uses
        self.names = {"thing": table, "user": schema.user}
        self.weight = 0
        self.walks = []

    def add(self, many, factor):
        self.weight += many * factor

    def head(self, path, name, factor):
        listed, _ = has_list(self.schema, self.names, path)
        self.names[name] = listed
        self.walks.append(listed)
        self.add(len(path) - 1, factor)

    def tree(self, tree, factor):
        kind = tree[0]
        if kind in ("or", "and"):
            for part in tree[1]:
                self.tree(part, factor)
        elif kind in ("not", "round"):
            self.tree(tree[1], factor)
        elif kind == "truth":
            self.add(1, factor)
        elif kind in WALKS:
            self.head(tree[1], tree[2], factor)
            self.tree(tree[3], 2)
        elif kind == "use":
            used = self.uses[tree[1]]
            self.add(len(tree[2]) + used.once, factor)
            self.add(used.twice, 2)
            self.walks += used.walks()
        elif kind == "list":
            self.walks += [has_list(self.schema, self.names, tree[3])[0]] * 2
            self.add(len(tree[1]) + len(tree[3]) - 1, 2)
        elif kind == "loop":
            self.head(tree[5], tree[4], 2)
            self.add(len(tree[1]) + len(tree[3]) - 1, 2)
        else:
            self.add(len(tree[1]) + (len(tree[3]) - 1 if kind == "paths" else 0), factor)

    def block(self, block, factor):
        for statement in block:
            kind = statement[0]
            if kind == "let":
                table, name = self.names[statement[2][0]], statement[1]
                self.names[name] = has_list(self.schema, self.names, statement[2])[1] or table
                self.add(len(statement[2]) - 1, factor)
            elif kind == "return":
                self.tree(statement[1], factor)
            elif kind == "for":
                self.head(statement[2], statement[1], factor)
                self.block(statement[3], 2)
            else:
                self.tree(statement[1], factor)
                self.block(statement[2], factor)
                self.block(statement[3] or [], factor)


def load_of(tree, language, schema, table, uses):
    """How much of a tree counts once and how much twice, and its walks."""
    counts = []
    for factor in (1, 2):
        count = Count(schema, table, uses)
        if language == "question":
            count.tree(tree, factor)
        else:
            count.block(tree, factor)
        counts.append(count)
    once = counts[1].weight - counts[0].weight
    return once, (counts[0].weight - once) // 2, counts[0].walks


class Spelled:
    """A right with the tree of its text, and what it is to mean and to count."""

    def __init__(self, schema, table, language, tree, uses, chance=None):
        self.schema = schema
        self.table = table
        self.language = language
        self.tree = tree
        self.uses = dict(uses)
        self.text, self.spelling, self.tests = texts(tree, language, chance)
        self.once, self.twice, self.walked = load_of(tree, language, schema, table, self.uses)
        self.weight = self.once + 2 * self.twice
        self.right = None
        if self.weight <= 100:
            made = Question if language == "question" else Check
            rights = {name: used.right for name, used in self.uses.items()}
            self.right = made(schema, table, self.text, uses=rights)

    def walks(self):
        return list(self.walked)

    def value(self, store, thing, user):
        """What it is to mean: of a question also None."""
        def asked(name):
            return lambda row, same: self.uses[name].value(store, row, same) is True

        uses = {name: asked(name) for name in self.uses}
        return value_of(self.tree, self.language, self.table, store, thing, user, uses)


def some_spelled(chance, schema, language, size, uses=None, table=None):
    """A random right that is not too heavy."""
    maker = Maker(chance, tables_of(schema), schema.user, language, uses or {})
    while True:
        its = table or chance.choice(schema.tables)
        made = Spelled(schema, its, language, maker.tree(its, size), uses or {}, chance)
        if made.right is not None:
            return made


def pairs_of(store, table):
    """All pairs of a thing and a user."""
    users = range(len(store.rows(store.schema.user)))
    return [(thing, user) for thing in range(len(store.rows(table))) for user in users]
