"""Schemas, stores and values that several tests use, and plain second spellings of some rules."""

import random

from listandpage.schemas import Schema

LETTERS = "abcdefghijklmnopqrstuvwxyz"
RESERVED = "all and any as else false for if in is lacks no not or return some super thing true user".split()

EXAMPLE = """user person
table team
word code?
table person
flag staff
link team? to team
table doc
flag public
number level
link team? to team
link owner to person
table member
link team to team as members
link person? to person as places
word role"""

EXAMPLE_TABLES = [
    ("team", [("word", "code", True)]),
    ("person", [("flag", "staff"), ("link", "team", "team", True, None)]),
    ("doc", [
        ("flag", "public"),
        ("number", "level"),
        ("link", "team", "team", True, None),
        ("link", "owner", "person", False, None),
    ]),
    ("member", [
        ("link", "team", "team", False, "members"),
        ("link", "person", "person", True, "places"),
        ("word", "role", False),
    ]),
]

# Tables with lists of rows that have lists, three of them within one another.
DEEP_TABLES = [
    ("org", [("word", "name", True), ("flag", "open")]),
    ("person", [("flag", "staff"), ("link", "org", "org", True, None), ("word", "nick", True)]),
    ("team", [("link", "org", "org", False, "teams"), ("number", "size")]),
    ("member", [("link", "team", "team", True, "members"), ("word", "role", True)]),
    ("note", [
        ("link", "member", "member", False, "notes"),
        ("link", "by", "person", True, None),
        ("number", "stars"),
        ("flag", "public"),
    ]),
]

# Two lists of rows of one table.
LOOSE_TABLES = [
    ("a", [("word", "w", True), ("flag", "f")]),
    ("b", [("link", "x", "a", True, "bs"), ("link", "y", "a", True, "cs"), ("word", "w", True), ("number", "n")]),
]

# Values that are no strings.
NO_TEXTS = (None, True, False, 0, 7, 10 ** 39, [], ["thing"], (), ("true",), ("alike", True), {}, {"true": 0})

# Values that are neither a name nor the name of a table, of all the kinds that may be passed.
NO_NAMES = (
    None, True, False, 0, 1, -1, 10 ** 39, "", " ", "Team", "teaM", "te am", " team", "team ", "team\n", "team?",
    "te.am", "team1", "1", "_", "teamteamt", [], ["team"], (), ("team",), ("team", 0), {}, {"team": 0},
    [[["team"]]], Schema("team", [("team", [])]),
)


def example():
    """The schema of the document's example."""
    return Schema("person", EXAMPLE_TABLES)


def example_rows():
    """Rows of each kind for the example."""
    return {
        "team": [("red",), (None,), ("blue",)],
        "person": [(True, 2), (False, None), (False, 0)],
        "doc": [(True, 7, None, 1), (False, -(10 ** 30 - 1), 2, 0)],
        "member": [(2, 0, "lead"), (0, None, "all"), (2, 0, "abcdefgh"), (2, 1, "x")],
    }


def deep(user="person"):
    """The schema of the deep tables."""
    return Schema(user, DEEP_TABLES)


def loose(user="a"):
    """The schema of the loose tables."""
    return Schema(user, LOOSE_TABLES)


def some_schema(chance):
    """One of the schemas above, or a random one."""
    kind = chance.randrange(4)
    tables = [EXAMPLE_TABLES, DEEP_TABLES, LOOSE_TABLES][kind] if kind < 3 else some_tables(chance)
    return Schema(chance.choice([name for name, _ in tables]), tables)


def tables_of(schema):
    """The tables of a schema, as it was made from them."""
    return [(name, list(schema.columns(name))) for name in schema.tables]


def is_name(value):
    """A name, spelled a second time."""
    if type(value) is not str or not 1 <= len(value) <= 8:
        return False
    return set(value) <= set(LETTERS) and value not in RESERVED


def some_name(chance, bar):
    """A name that is not barred."""
    while True:
        name = "".join(chance.choice(LETTERS) for _ in range(chance.randint(1, 8)))
        if is_name(name) and name not in bar:
            return name


def some_column(chance, used, tables, taken):
    """A column that fits behind columns of the used names; taken gets the name of a list."""
    name = some_name(chance, used)
    kind = chance.choice(["flag", "number", "word", "link", "link"])
    if kind == "link" and not tables:
        kind = "word"
    if kind == "word":
        return ("word", name, chance.random() < 0.5)
    if kind != "link":
        return (kind, name)
    table = chance.choice(tables)
    listed = None
    if chance.random() < 0.5:
        listed = some_name(chance, taken[table])
    return ("link", name, table, chance.random() < 0.5, listed)


def meeting_links(tables):
    """For each table that breaks point 6 its index and those of the columns that break it."""
    columns = dict(tables)

    def links(table):
        return [column for column in columns[table] if column[0] == "link"]

    def is_listed(table):
        return any(link[4] is not None for link in links(table))

    def reached(link):
        found = {link[2]}
        for further in links(link[2]):
            found |= reached(further)
        return found

    broken = []
    for index, (table, its) in enumerate(tables):
        makers = [link for link in links(table) if link[4] is not None]
        wrong = []
        for at, column in enumerate(its):
            if column[0] != "link" or not makers:
                continue
            if any(is_listed(other) for other in reached(column)) and makers != [column]:
                wrong.append(at)
        if wrong:
            broken.append((index, wrong))
    return broken


def some_tables(chance, count=None, keep_six=True):
    """Right tables; with keep_six false they may break point 6."""
    tables = []
    taken = {}
    for _ in range(count or chance.randint(1, 6)):
        name = some_name(chance, taken)
        columns = []
        used = []
        for _ in range(chance.randint(0, 6)):
            column = some_column(chance, used, list(taken), taken)
            if keep_six and meeting_links(tables + [(name, columns + [column])]):
                continue
            used.append(column[1])
            columns.append(column)
            if column[0] == "link" and column[4] is not None:
                taken[column[2]].append(column[4])
        taken[name] = used
        tables.append((name, columns))
    return tables


def some_value(chance, column, counts):
    """A value that fits the column; None if there is no row to link to."""
    if column[0] == "flag":
        return chance.random() < 0.5
    if column[0] == "number":
        limit = 10 ** chance.randint(0, 30) - 1
        return chance.choice([limit, -limit, chance.randint(-limit, limit)])
    optional = column[2] if column[0] == "word" else column[3]
    if optional and chance.random() < 0.3:
        return None
    if column[0] == "word":
        return "".join(chance.choice(LETTERS) for _ in range(chance.randint(1, 8)))
    return chance.randrange(counts[column[2]]) if counts[column[2]] else None


def some_row(chance, columns, counts):
    """A row that fits the columns, or None where a link has no row to lead to."""
    row = tuple(some_value(chance, column, counts) for column in columns)
    for column, value in zip(columns, row):
        if column[0] == "link" and not column[3] and value is None:
            return None
    return row


def some_rows(chance, tables, most=6):
    """Right rows for each table."""
    counts = {}
    rows = {}
    for name, columns in tables:
        made = [some_row(chance, columns, counts) for _ in range(chance.randint(0, most))]
        rows[name] = [row for row in made if row is not None]
        counts[name] = len(rows[name])
    return rows


def lists_of(tables):
    """The lists of each table, spelled a second time."""
    found = {name: {} for name, _ in tables}
    for name, columns in tables:
        for column in columns:
            if column[0] == "link" and column[4] is not None:
                found[column[2]][column[4]] = (name, column[1])
    return found


def chances(count):
    """Sources of the same numbers in each run."""
    return [random.Random(number) for number in range(count)]
