"""Plain second spellings of points 20, 22, 24, 27 and 28: walks, kept parts, bounds, and what facts settle.

A right is told as ("question", tree), ("check", block) or (sign, parts) with "&", "|", "-" or "~", where paths
are pairs of an origin (0 the thing, 1 the user, 2 and more the rows of the walks around) and columns, and
each walk has its index. True, False and None mean settled to hold, settled not to hold, and not settled.
"""

from fractions import Fraction

UNKNOWN = ("unknown",)
UNASKED = ("unasked",)


def every(told):
    """Whether all hold."""
    return False if False in told else None if None in told else True


def some(told):
    """Whether one holds at least."""
    return True if True in told else None if None in told else False


def opposite(told):
    return None if told is None else not told


class Combined:
    """A right that is put together by a sign, with what it was made from (Spelled or Combined)."""

    def __init__(self, sign, parts):
        self.sign = sign
        self.parts = parts
        rights = [part.right for part in parts]
        if sign == "~":
            self.right = ~rights[0]
        else:
            one, two = rights
            self.right = {"&": lambda: one & two, "|": lambda: one | two, "-": lambda: one - two}[sign]()


class WalkOf:
    """A walk: the indexes of those around it, the path to the row whose list is walked, the link, its kind."""

    def __init__(self, around, base, link):
        self.around = around
        self.base = base
        self.link = link
        self.counts = None


class Reader:
    """Reads spelled rights of a schema, and numbers their walks."""

    def __init__(self, schema):
        self.schema = schema
        self.walks = []
        self.words = set()
        self.numbers = {}

    def right(self, spelled, start=(0, ()), around=()):
        if isinstance(spelled, Combined):
            return (spelled.sign, [self.right(part, start, around) for part in spelled.parts])
        names = {"thing": start + (spelled.table,), "user": (1, (), self.schema.user)}
        if spelled.language == "question":
            return ("question", self.tree(spelled.tree, names, around, spelled.uses))
        return ("check", self.block(spelled.tree, names, around, spelled.uses))

    def path(self, path, names):
        """Its origin and columns, those behind its list, the link that makes this, and the table or cell at the end."""
        origin, columns, table = names[path[0]]
        link = None
        behind = ()
        for name in path[1:]:
            lists = self.schema.lists(table)
            if name in lists:
                link = lists[name]
                table = link[0]
                continue
            column = {column[1]: column for column in self.schema.columns(table)}[name]
            if link is None:
                columns += (name,)
            else:
                behind += (name,)
            table = column[2] if column[0] == "link" else (table, name)
        return (origin, columns), behind, link, table

    def plain(self, path, names):
        return self.path(path, names)[0]

    def walk(self, head, around, names):
        base, _, link, _ = self.path(head, names)
        self.walks.append(WalkOf(around, base, link))
        return len(self.walks) - 1

    def inside(self, names, name, around, index):
        return {**names, name: (2 + len(around), (), self.walks[index].link[0])}

    def tree(self, tree, names, around, uses):
        kind = tree[0]
        if kind in ("or", "and"):
            return (kind, [self.tree(part, names, around, uses) for part in tree[1]])
        if kind in ("not", "round"):
            return (kind, self.tree(tree[1], names, around, uses))
        if kind == "truth":
            return tree
        if kind in ("some", "no", "any", "all"):
            index = self.walk(tree[1], around, names)
            inner = self.tree(tree[3], self.inside(names, tree[2], around, index), around + (index,), uses)
            return (kind, index, inner)
        if kind == "use":
            path = self.plain(tree[2], names)
            return ("use", path, self.right(uses[tree[1]], path, around))
        if kind in ("list", "loop"):
            return self.within(tree, names, around)
        left, _, _, cell = self.path(tree[1], names)
        if kind in ("word", "words"):
            words = [tree[3]] if kind == "word" else tree[3]
            self.words.update(words)
            return ("words", left, tree[2], words)
        if kind == "number":
            self.numbers.setdefault(cell, set()).add(tree[3])
        if kind == "paths":
            return ("paths", left, tree[2], self.plain(tree[3], names))
        return (kind, left) + tuple(tree[2:])

    def within(self, tree, names, around):
        left = self.plain(tree[1], names)
        if tree[0] == "list":
            behind = self.path(tree[3], names)[1]
            first, second = self.walk(tree[3], around, names), self.walk(tree[3], around, names)
            return ("list", left, tree[2], (2 + len(around), behind), first, second)
        index = self.walk(tree[5], around, names)
        end = self.plain(tree[3], self.inside(names, tree[4], around, index))
        return ("loop", left, tree[2], end, index)

    def block(self, block, names, around, uses):
        names = dict(names)
        found = []
        for statement in block:
            kind = statement[0]
            if kind == "let":
                names[statement[1]] = self.path(statement[2], names)[0] + (self.path(statement[2], names)[3],)
            elif kind == "return":
                found.append(("return", self.tree(statement[1], names, around, uses)))
            elif kind == "if":
                test = self.tree(statement[1], names, around, uses)
                block = self.block(statement[2], names, around, uses)
                found.append(("if", test, block, self.block(statement[3] or [], names, around, uses)))
            else:
                index = self.walk(statement[2], around, names)
                inner = self.inside(names, statement[1], around, index)
                block = self.block(statement[3], inner, around + (index,), uses)
                found.append(("for", index, block, truth_in(statement[3])))
        return found


def truth_in(block):
    """What the returns in a block give, None if there are none."""
    for statement in block:
        if statement[0] == "return":
            return statement[1][1]
        inner = {"if": lambda: statement[2] + (statement[3] or []), "for": lambda: statement[3]}.get(statement[0])
        if inner is not None and truth_in(inner()) is not None:
            return truth_in(inner())
    return None


class Settler:
    """What a world settles. A world tells tables, cells and answers of rows, and whether all rows are known."""

    def __init__(self, world, walks):
        self.world = world
        self.walks = walks

    def value(self, path, rows):
        value = rows[path[0]]
        for column in path[1]:
            if value is None or value == UNKNOWN:
                return value
            value = self.world.cell(value, column)
        return value

    def right(self, right, rows):
        kind, inner = right
        if kind == "question":
            return self.question(inner, rows)[0]
        if kind == "check":
            told = self.block(inner, rows)
            return True if told == {True} else False if True not in told else None
        told = [self.right(part, rows) for part in inner]
        if kind == "~":
            return opposite(told[0])
        if kind == "-":
            return every([told[0], opposite(told[1])])
        return every(told) if kind == "&" else some(told)

    def counts(self, index, rows, content):
        """Whether some row counts for a walk; content tells it of the rows with one more."""
        walk = self.walks[index]
        answer = self.world.answer(index, rows[2:])
        if answer != UNASKED:
            return answer is not None
        base = self.value(walk.base, rows)
        if base is None:
            return False
        told = [content(rows + (row,)) for row in self.world.listed(walk.link, base)] if base != UNKNOWN else []
        return True if True in told else some(told) if self.world.complete else None

    def question(self, tree, rows):
        """Whether it is true, and whether it is false."""
        kind = tree[0]
        if kind in ("or", "and"):
            told = [self.question(part, rows) for part in tree[1]]
            true, false = [one for one, _ in told], [two for _, two in told]
            return (some(true), every(false)) if kind == "or" else (every(true), some(false))
        if kind in ("not", "round"):
            told = self.question(tree[1], rows)
            return told[::-1] if kind == "not" else told
        if kind == "truth":
            return tree[1], not tree[1]
        if kind in ("some", "no"):
            told = self.counts(tree[1], rows, lambda longer: self.question(tree[2], longer)[0])
            return (told, opposite(told)) if kind == "some" else (opposite(told), told)
        if kind == "use":
            value, told = self.value(tree[1], rows), self.right(tree[2], rows)
            if value is None:
                return False, False
            if value == UNKNOWN:
                return (False if told is False else None), (False if told is True else None)
            return told, opposite(told)
        told = self.asked(tree, rows)
        return told[::-1] if kind in ("list", "paths", "words") and tree[2] else told

    def asked(self, tree, rows):
        kind = tree[0]
        if kind == "list":
            first = self.counts(tree[4], rows, lambda longer: self.ends(tree, longer, False))
            second = self.counts(tree[5], rows, lambda longer: self.ends(tree, longer, True))
            return first, opposite(second)
        values = [self.value(tree[1], rows)] + ([self.value(tree[3], rows)] if kind == "paths" else [])
        if kind == "lacks":
            return (None, None) if UNKNOWN in values else (values[0] is None, values[0] is not None)
        if None in values:
            return False, False
        if UNKNOWN in values:
            return None, None
        told = self.compared(tree, values)
        return told, not told

    def ends(self, tree, rows, lacking):
        values = [self.value(tree[1], rows), self.value(tree[3], rows)]
        if None in values:
            return lacking
        return None if UNKNOWN in values else values[0] == values[1]

    def compared(self, tree, values):
        value = values[0]
        if tree[0] == "paths":
            return value == values[1]
        if tree[0] == "flag":
            return value
        if tree[0] == "words":
            return value in tree[3]
        sign, number = tree[2:]
        if value is None:
            return sign == "!="
        return {
            "=": value == number, "!=": value != number, "<": value < number,
            "<=": value <= number, ">": value > number, ">=": value >= number,
        }[sign]

    def check(self, tree, rows):
        kind = tree[0]
        if kind in ("or", "and"):
            told = [self.check(part, rows) for part in tree[1]]
            return some(told) if kind == "or" else every(told)
        if kind in ("not", "round"):
            told = self.check(tree[1], rows)
            return opposite(told) if kind == "not" else told
        if kind == "truth":
            return tree[1]
        if kind == "any":
            return self.counts(tree[1], rows, lambda longer: self.check(tree[2], longer))
        if kind == "all":
            return opposite(self.counts(tree[1], rows, lambda longer: opposite(self.check(tree[2], longer))))
        if kind == "use":
            value, told = self.value(tree[1], rows), self.right(tree[2], rows)
            return False if value is None or told is False else None if value == UNKNOWN else told
        if kind == "loop":
            told = self.counts(tree[4], rows, lambda longer: self.same(tree, longer))
        else:
            told = self.same(tree, rows)
        return opposite(told) if kind in ("lacks", "paths", "words", "loop") and tree[2] else told

    def same(self, tree, rows):
        """A test of known values, without its `not`."""
        kind = tree[0]
        values = [self.value(tree[1], rows)] + ([self.value(tree[3], rows)] if kind in ("paths", "loop") else [])
        if UNKNOWN in values:
            return None
        if kind == "lacks":
            return values[0] is None
        if kind in ("paths", "loop"):
            return values[0] == values[1]
        return self.compared(tree, values) is True

    def block(self, block, rows):
        """The outcomes: True, False and "end"."""
        found = set()
        for statement in block:
            told = self.statement(statement, rows)
            found |= told - {"end"}
            if "end" not in told:
                return found
        return found | {"end"}

    def statement(self, statement, rows):
        kind = statement[0]
        if kind == "return":
            told = self.check(statement[1], rows)
            return {True, False} if told is None else {told}
        if kind == "if":
            told = self.check(statement[1], rows)
            blocks = [statement[2]] * (told is not False) + [statement[3]] * (told is not True)
            return set().union(*[self.block(block, rows) for block in blocks])
        if statement[3] is None:
            return {"end"}
        told = self.counts(statement[1], rows, lambda longer: self.returns(statement[2], longer))
        return {statement[3]} if told is True else {"end"} if told is False else {statement[3], "end"}

    def returns(self, block, rows):
        told = self.block(block, rows)
        return True if "end" not in told else False if told == {"end"} else None

    # Whether a row counts for the walk of an index, wherever it stands.

    def content(self, right):
        """For each walk in a right what tells whether a row counts, of the rows with this row."""
        found = {}
        self.gather(right, found)
        return found

    def gather(self, right, found):
        kind, inner = right
        if kind == "question":
            self.gather_tree(inner, found, "question")
        elif kind == "check":
            self.gather_block(inner, found)
        else:
            for part in inner:
                self.gather(part, found)

    def gather_tree(self, tree, found, language):
        kind = tree[0]
        if kind in ("or", "and"):
            for part in tree[1]:
                self.gather_tree(part, found, language)
        elif kind in ("not", "round"):
            self.gather_tree(tree[1], found, language)
        elif kind in ("some", "no"):
            found[tree[1]] = lambda rows: self.question(tree[2], rows)[0]
            self.gather_tree(tree[2], found, language)
        elif kind in ("any", "all"):
            found[tree[1]] = lambda rows: self.check(("round" if kind == "any" else "not", tree[2]), rows)
            self.gather_tree(tree[2], found, language)
        elif kind == "use":
            self.gather(tree[2], found)
        elif kind == "list":
            found[tree[4]] = lambda rows: self.ends(tree, rows, False)
            found[tree[5]] = lambda rows: self.ends(tree, rows, True)
        elif kind == "loop":
            found[tree[4]] = lambda rows: self.same(tree, rows)

    def gather_block(self, block, found):
        for statement in block:
            if statement[0] == "return":
                self.gather_tree(statement[1], found, "check")
            elif statement[0] == "if":
                self.gather_tree(statement[1], found, "check")
                self.gather_block(statement[2], found)
                self.gather_block(statement[3], found)
            else:
                self.gather_for(statement, found)

    def gather_for(self, statement, found):
        found[statement[1]] = lambda rows: self.returns(statement[2], rows)
        self.gather_block(statement[2], found)


class StoreRows:
    """A store as a world: rows are pairs of a table and an index."""

    complete = True

    def __init__(self, store):
        self.store = store

    def cell(self, row, column):
        value = self.store.value(row[0], row[1], column)
        kinds = {each[1]: each for each in self.store.schema.columns(row[0])}
        return (kinds[column][2], value) if kinds[column][0] == "link" and value is not None else value

    def listed(self, link, base):
        table, column = link
        rows = [(table, at) for at in range(len(self.store.rows(table)))]
        return [row for row in rows if self.cell(row, column) == base]

    def answer(self, index, rows):
        return UNASKED


def kept_rows(one, two, store, thing, user):
    """The kept part of point 22 for two spelled rights."""
    schema = store.schema
    reader = Reader(schema)
    rights = [reader.right(one), reader.right(two)]
    settler = Settler(StoreRows(store), reader.walks)
    contents = {}
    for right in rights:
        contents.update(settler.content(right))
    start = ((one.right.table, thing), (schema.user, user))
    kept = set(start)
    while True:
        found = set(kept)
        for row in kept:
            for column in schema.columns(row[0]):
                if column[0] == "link" and settler.world.cell(row, column[1]) is not None:
                    found.add(settler.world.cell(row, column[1]))
        for index, walk in enumerate(reader.walks):
            for rows in choices(settler, walk.around, start, kept):
                base = settler.value(walk.base, rows)
                listed = [] if base is None else settler.world.listed(walk.link, base)
                found.update([row for row in listed if contents[index](rows + (row,))][:1])
        if found == kept:
            return {table: sorted(at for name, at in kept if name == table) for table in schema.tables}
        kept = found


def choices(settler, around, start, kept):
    """All choices of kept rows for the walks around, each in the list of its walk."""
    found = [start]
    for index in around:
        walk = settler.walks[index]
        longer = []
        for rows in found:
            base = settler.value(walk.base, rows)
            listed = [] if base is None else settler.world.listed(walk.link, base)
            longer += [rows + (row,) for row in listed if row in kept]
        found = longer
    return found


def bounds_of(one, two, schema):
    """The bounds of point 24."""
    reader = Reader(schema)
    for spelled in (one, two):
        reader.right(spelled)

    def ways(source, goal):
        links = [column for column in schema.columns(source) if column[0] == "link"]
        return (source == goal) + sum(ways(column[2], goal) for column in links)

    listed = [t for t in schema.tables if any(c[0] == "link" and c[4] is not None for c in schema.columns(t))]
    start = {t: ways(one.right.table, t) + ways(schema.user, t) for t in schema.tables}
    most = {}
    for table in listed:
        most[table] = start[table]
        for walk in reader.walks:
            if walk.link[0] == table:
                product = 1
                for index in walk.around:
                    product *= most[reader.walks[index].link[0]]
                most[table] += product
    for table in schema.tables:
        if table not in listed:
            most[table] = start[table] + sum((most[s] - start[s]) * ways(s, table) for s in listed)
    return {table: most[table] for table in schema.tables}


class Named:
    """Facts about rows that are named by numbers, as a world."""

    complete = False

    def __init__(self, tables, cells, answers, words, clashes):
        self.tables = tables
        self.cells = cells
        self.answers = answers
        self.words = words
        self.clashes = clashes

    def cell(self, row, column):
        return self.cells.get((row, column), UNKNOWN)

    def of_table(self, table):
        return [row for row, named in enumerate(self.tables) if named == table]

    def listed(self, link, base):
        return [row for row in self.of_table(link[0]) if self.cell(row, link[1]) == base]

    def answer(self, index, rows):
        return self.answers.get((index, rows), UNASKED)

    def grown(self, tables=(), cells=None, answers=None, words=(), clashes=False):
        return Named(self.tables + list(tables), {**self.cells, **(cells or {})}, {**self.answers, **(answers or {})},
                     self.words + list(words), self.clashes or clashes)


class Trees:
    """Points 27 and 28 for two spelled rights."""

    def __init__(self, one, two, schema, least=0):
        self.schema = schema
        self.table = one.right.table
        self.least = least
        self.reader = Reader(schema)
        self.rights = [self.reader.right(one), self.reader.right(two)]

    def is_tree(self, thing):
        if self.table != self.schema.user:
            return self.fits(thing, Named([self.table, self.schema.user], {}, {}, [], False), (0, 1))
        if type(thing) is not tuple or len(thing) != 2 or type(thing[0]) is not str or thing[0] != "same":
            return False
        if type(thing[1]) is not tuple or len(thing[1]) != 2:
            return False
        apart = Named([self.table, self.table], {}, {}, [], False)
        return self.fits(thing[1][0], apart, (0, 1)) and \
            self.fits(thing[1][1], Named([self.table], {}, {}, [], False), (0, 0))

    def fits(self, tree, named, start):
        if type(tree) is bool:
            settler = Settler(named, self.reader.walks)
            return all(settler.right(right, start) is tree for right in self.rights)
        if type(tree) is str:
            if tree == "enough":
                return 0 < self.least <= len(named.tables)
            return tree == "clash" and (named.clashes or self.clashes(named, start))
        if type(tree) is not tuple or len(tree) != 4 or type(tree[0]) is not str or type(tree[3]) is not tuple:
            return False
        cases = self.some(tree, named, start) if tree[0] == "some" else self.cell(tree, named)
        if not cases or len(cases) != len(tree[3]):
            return False
        return all(self.fits(branch, case, start) for branch, case in zip(tree[3], cases))

    def clashes(self, named, start):
        settler = Settler(named, self.reader.walks)
        contents = {}
        for right in self.rights:
            contents.update(settler.content(right))
        for (index, rows), answer in named.answers.items():
            walk = self.reader.walks[index]
            if answer is not None:
                if contents[index](start + rows + (answer,)) is False:
                    return True
                continue
            base = settler.value(walk.base, start + rows)
            if any(contents[index](start + rows + (row,)) is True for row in named.listed(walk.link, base)):
                return True
        return False

    def cell(self, tree, named):
        kind, row, name = tree[:3]
        if type(row) is not int or not 0 <= row < len(named.tables) or type(name) is not str:
            return None
        table = named.tables[row]
        column = {column[1]: column for column in self.schema.columns(table)}.get(name)
        if column is None or column[0] != kind or (row, name) in named.cells:
            return None
        key = (row, name)
        if kind == "flag":
            return [named.grown(cells={key: value}) for value in (False, True)]
        if kind == "number":
            return self.numbers(named, key, sorted(self.reader.numbers.get((table, name), ())))
        if kind == "link":
            cases = [named.grown(cells={key: None})] * column[3]
            cases += [named.grown(cells={key: base}) for base in named.of_table(column[2])]
            return cases + [named.grown(tables=[column[2]], cells={key: len(named.tables)})]
        cases = [named.grown(cells={key: None})] * column[2]
        cases += [named.grown(cells={key: word}) for word in sorted(self.reader.words) + named.words]
        new = ("new", len(named.words))
        return cases + [named.grown(cells={key: new}, words=[new])]

    def numbers(self, named, key, written):
        if not written:
            return [named.grown(cells={key: 0})]
        cases = [named.grown(cells={key: written[0] - 1})]
        for at, number in enumerate(written):
            cases.append(named.grown(cells={key: number}))
            clash = at + 1 < len(written) and written[at + 1] == number + 1
            cases.append(named.grown(cells={key: Fraction(2 * number + 1, 2)}, clashes=clash))
        return cases

    def some(self, tree, named, start):
        index, rows = tree[1:3]
        if type(index) is not int or not 0 <= index < len(self.reader.walks) or type(rows) is not tuple:
            return None
        walk = self.reader.walks[index]
        if len(rows) != len(walk.around):
            return None
        for row, outer in zip(rows, walk.around):
            if type(row) is not int or not 0 <= row < len(named.tables):
                return None
            if named.tables[row] != self.reader.walks[outer].link[0]:
                return None
        base = Settler(named, self.reader.walks).value(walk.base, start + rows)
        if (index, rows) in named.answers or base is None or base == UNKNOWN:
            return None
        cases = [named.grown(answers={(index, rows): None})]
        for row in named.of_table(walk.link[0]):
            known = named.cell(row, walk.link[1])
            cells = {(row, walk.link[1]): base} if known == UNKNOWN else {}
            cases.append(named.grown(answers={(index, rows): row}, cells=cells, clashes=known not in (UNKNOWN, base)))
        new = len(named.tables)
        return cases + [named.grown([walk.link[0]], {(new, walk.link[1]): base}, {(index, rows): new})]
