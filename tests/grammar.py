"""The rules for questions and checks as they are written in the document, and a plain reader of any rules.

A rule has several ways, each a sequence of symbols: names of rules, NAME, NUMBER and WORD,
or tokens as they are written. The reader goes through the tokens with all ways at once.
"""

import re

from tests.samples import RESERVED

TOKEN = re.compile(r"[A-Za-z]+|[0-9]+|'[a-z]{1,8}'|!=|==|<=|>=|[^ ]")

SHARED = {
    "PATH": ["FIRST", "FIRST . NAMES"],
    "NAMES": ["NAME", "NAME . NAMES"],
    "FIRST": ["thing", "user", "NAME"],
    "WORDS": ["WORD", "WORD , WORDS"],
    "LESS": ["<", "<=", ">", ">="],
    "IN": ["in", "not in"],
}
QUESTION = {
    **SHARED,
    "QUESTION": ["PART", "PART or QUESTION"],
    "PART": ["ATOM", "ATOM and PART"],
    "ATOM": ["not ATOM", "( QUESTION )", "true", "false", "TEST", "NAME ( PATH )", "WALK PATH as NAME ( QUESTION )"],
    "WALK": ["some", "no"],
    "TEST": ["PATH", "PATH lacks", "PATH EQUAL PATH", "PATH EQUAL WORD", "PATH EQUAL NUMBER", "PATH LESS NUMBER",
             "PATH IN PATH", "PATH IN ( WORDS )"],
    "EQUAL": ["=", "!="],
}
STATEMENT = {
    **SHARED,
    "STATEMENT": ["if CTEST :", "for NAME in PATH :", "return CTEST", "NAME = PATH"],
    "CTEST": ["CPART", "CPART or CTEST"],
    "CPART": ["CATOM", "CATOM and CPART"],
    "CATOM": ["not CATOM", "( CTEST )", "True", "False", "TEST", "NAME ( PATH )", "super ( )",
              "WALK ( CTEST for NAME in PATH )"],
    "WALK": ["any", "all"],
    "TEST": ["PATH", "PATH is None", "PATH is not None", "PATH EQUAL PATH", "PATH EQUAL WORD", "PATH EQUAL NUMBER",
             "PATH LESS NUMBER", "PATH IN ( WORDS )", "PATH IN [ PATH for NAME in PATH ]"],
    "EQUAL": ["==", "!="],
}
WITH_ELSE = {**STATEMENT, "STATEMENT": STATEMENT["STATEMENT"] + ["else :"]}


def ways(rules):
    return {name: [tuple(way.split()) for way in written] for name, written in rules.items()}


def fits(symbol, token):
    """Whether a token is what a symbol stands for."""
    if symbol == "NAME":
        return re.fullmatch("[a-z]+", token) is not None and token not in RESERVED
    if symbol == "NUMBER":
        return re.fullmatch("0|[1-9][0-9]{0,11}", token) is not None
    if symbol == "WORD":
        return re.fullmatch("'[a-z]{1,8}'", token) is not None
    return symbol == token


def closed(states, columns, rules):
    """All states that begin or end at the same place as these: (rule, way, dot, start)."""
    found = set(states)
    todo = list(states)
    while todo:
        name, way, dot, start = todo.pop()
        if dot < len(way):
            more = [(way[dot], each, 0, len(columns)) for each in rules.get(way[dot], [])]
        else:
            more = [(n, w, d + 1, s) for n, w, d, s in columns[start] if d < len(w) and w[d] == name]
        for state in more:
            if state not in found:
                found.add(state)
                todo.append(state)
    return found


def first_fault(text, rules, start):
    """The position of the first token with which no text goes on as it began, or None."""
    rules = ways(rules)
    columns = []
    states = closed([(start, way, 0, 0) for way in rules[start]], columns, rules)
    for match in TOKEN.finditer(text):
        columns.append(states)
        moved = [(n, w, d + 1, s) for n, w, d, s in states if d < len(w) and fits(w[d], match.group())]
        if not moved:
            return match.start()
        states = closed(moved, columns, rules)
    if any(n == start and d == len(w) and s == 0 for n, w, d, s in states):
        return None
    return len(text)


def question_fault(text):
    return first_fault(text, QUESTION, "QUESTION")


def check_fault(text):
    """The line and the position of the first fault of a check, or None."""
    lines = text.split("\n")
    earlier = []
    for number, line in enumerate(lines):
        width = len(line) - len(line.lstrip(" "))
        if number == 20 or not may_stand(earlier, width):
            return number, 0
        depth = width // 4
        at = first_fault(line, WITH_ELSE if takes_else(earlier, depth) else STATEMENT, "STATEMENT")
        if at is not None:
            return number, at
        earlier.append((depth, TOKEN.search(line).group()))
    return (len(lines), 0) if opens_block(earlier[-1]) else None


def opens_block(line):
    return line[1] in ("if", "else", "for")


def may_stand(earlier, width):
    """Whether a line with so many spaces may stand behind earlier lines, pairs of a depth and a first word."""
    if width % 4:
        return False
    if not earlier:
        return width == 0
    last = earlier[-1]
    return width // 4 == last[0] + 1 if opens_block(last) else width // 4 <= last[0]


def takes_else(earlier, depth):
    """Whether the last statement at this depth is an `if` without an `else`, with its block behind it."""
    for its, word in reversed(earlier):
        if its < depth:
            return False
        if its == depth:
            return word == "if"
    return False
