"""What the language of the package asks of loops: none changes what it iterates over."""

import ast
import pathlib
import textwrap
import unittest

FOLDER = pathlib.Path(__file__).resolve().parent.parent / "listandpage"
CHANGING = ("append", "clear", "extend", "insert", "pop", "remove", "reverse", "setdefault", "sort", "update")
GETTING = ("extend", "update")
THROUGH = ("enumerate", "reversed", "zip")
VIEWS = ("items", "keys", "values")
KEPT = (ast.Name, ast.Attribute, ast.Subscript)


def iterated(node):
    """The expressions that a loop over an expression iterates over."""
    if isinstance(node, ast.IfExp):
        return iterated(node.body) + iterated(node.orelse)
    if isinstance(node, ast.BoolOp):
        return [each for value in node.values for each in iterated(value)]
    if isinstance(node, ast.Call) and isinstance(node.func, ast.Name) and node.func.id in THROUGH:
        return [each for argument in node.args for each in iterated(argument)]
    if isinstance(node, ast.Call) and isinstance(node.func, ast.Attribute) and node.func.attr in VIEWS:
        return iterated(node.func.value)
    return [ast.unparse(node)]


def changed(node):
    """The expression of the list or dict that a node itself changes, in a list."""
    if isinstance(node, ast.Call) and isinstance(node.func, ast.Attribute) and node.func.attr in CHANGING:
        return [node.func.value]
    targets = node.targets if isinstance(node, (ast.Assign, ast.Delete)) else []
    found = [target.value for target in targets if isinstance(target, ast.Subscript)]
    if isinstance(node, ast.AugAssign):
        found.append(node.target.value if isinstance(node.target, ast.Subscript) else node.target)
    return found


def gotten(node):
    """What a node puts into the list, dict or number that it changes."""
    if isinstance(node, ast.AugAssign):
        return [node.value]
    is_call = isinstance(node, ast.Call) and isinstance(node.func, ast.Attribute)
    return node.args if is_call and node.func.attr in GETTING else []


def joined_names(function):
    """For each name, attribute or item all those that plain assignments of the function join with it."""
    groups = {}
    for node in ast.walk(function):
        if isinstance(node, ast.Assign) and isinstance(node.value, KEPT):
            for target in node.targets:
                one, two = ast.unparse(target), ast.unparse(node.value)
                group = groups.get(one, {one}) | groups.get(two, {two})
                groups.update({name: group for name in group})
    return groups


def holders(node):
    """An expression and what it is an item of, an item of an item and so on."""
    return [ast.unparse(node)] + (holders(node.value) if isinstance(node, ast.Subscript) else [])


def choices(node):
    """The expressions that an expression may be the value of, as far as it builds none of its own."""
    if isinstance(node, ast.IfExp):
        return choices(node.body) + choices(node.orelse)
    if isinstance(node, ast.BoolOp):
        return [each for value in node.values for each in choices(value)]
    return [node] if isinstance(node, KEPT) else []


def given_names(function):
    """For each name what it was given: an expression and what this is an item of, or all in the head of a loop."""
    given = {}
    for node in ast.walk(function):
        if isinstance(node, ast.Assign):
            targets, found = node.targets, [name for each in choices(node.value) for name in holders(each)]
        elif isinstance(node, (ast.For, ast.comprehension)):
            targets, found = [node.target], [ast.unparse(each) for each in ast.walk(node.iter) if isinstance(each, KEPT)]
        else:
            continue
        names = [each.id for target in targets for each in ast.walk(target)
                 if isinstance(each, ast.Name) and isinstance(each.ctx, ast.Store)]
        for name in names:
            given.setdefault(name, set()).update(found)
    return given


def followed(names, given):
    """These names and all that they were given."""
    found = set()
    waiting = list(names)
    while waiting:
        name = waiting.pop()
        if name not in found:
            found.add(name)
            waiting.extend(given.get(name, ()))
    return found


def loops(function):
    """Each loop and comprehension: what it iterates over, and the nodes within."""
    for node in ast.walk(function):
        if isinstance(node, ast.For):
            yield iterated(node.iter), [each for row in node.body for each in ast.walk(row)]
        elif isinstance(node, (ast.ListComp, ast.SetComp, ast.DictComp, ast.GeneratorExp)):
            yield [each for part in node.generators for each in iterated(part.iter)], list(ast.walk(node))


def wrong_rows(text):
    """The rows of a file in which a loop changes what it iterates over, or something gets what it changes."""
    rows = set()
    functions = [node for node in ast.walk(ast.parse(text)) if isinstance(node, ast.FunctionDef)]
    for function in functions:
        groups = joined_names(function)
        given = given_names(function)
        for over, nodes in loops(function):
            names = {name for each in over for name in groups.get(each, {each})}
            rows.update(node.lineno for node in nodes for each in changed(node) if ast.unparse(each) in names)
        for node in ast.walk(function):
            parts = [each for got in gotten(node) for each in ast.walk(got) if isinstance(each, ast.expr)]
            inside = followed([ast.unparse(each) for each in parts], given)
            held = [name for each in changed(node) for name in holders(each)]
            own = [each for name in held for each in groups.get(name, [name])]
            rows.update(node.lineno for name in own if name in inside)
    return sorted(rows)


class LoopsTest(unittest.TestCase):
    def told(self, text):
        return wrong_rows("def f(xs, d, box):\n" + textwrap.indent(textwrap.dedent(text).strip("\n"), "    "))

    def test_the_package(self):
        paths = sorted(FOLDER.rglob("*.py"))
        self.assertTrue(paths)
        for path in paths:
            self.assertEqual(wrong_rows(path.read_text(encoding="utf-8")), [], path)

    def test_changed_under_another_name(self):
        self.assertEqual(self.told("""
            found = [()]
            for _ in xs:
                longer = []
                for chosen in found:
                    longer.extend([chosen + (x,) for x in xs])
                found = longer
        """), [6])
        self.assertEqual(self.told("""
            found = [()]
            for _ in xs:
                found = [chosen + (x,) for chosen in found for x in xs]
        """), [])

    def test_changed_by_its_name(self):
        self.assertEqual(self.told("for x in xs:\n    xs.append(x)"), [3])
        self.assertEqual(self.told("for x in list(xs):\n    xs.append(x)"), [])
        self.assertEqual(self.told("for x in enumerate(d.items()):\n    d[x] = 1"), [3])
        self.assertEqual(self.told("for x in box.rows:\n    del box.rows[0]"), [3])
        self.assertEqual(self.told("for x in xs or d:\n    d.pop(x)"), [3])
        self.assertEqual(self.told("for x in xs if d else box:\n    box += [x]"), [3])
        self.assertEqual(self.told("return [xs.pop() for x in xs]"), [2])

    def test_gets_what_it_changes(self):
        self.assertEqual(self.told("d[1] += d[0]"), [2])
        self.assertEqual(self.told("d[1] = d[1] + d[0]\nmany = d[0]\nd[1] = d[1] + many"), [])
        self.assertEqual(self.told("xs.extend(xs)\nxs.extend([x for x in xs])\nd.update(d)\nxs += xs"), [2, 3, 4, 5])
        self.assertEqual(self.told("xs.extend(list(box))\nd.update({x: 1 for x in xs})"), [])

    def test_gets_an_item_by_a_name(self):
        self.assertEqual(self.told("""
            for each in xs:
                many = d[each]
                for x in box:
                    d[x] += many
        """), [5])
        self.assertEqual(self.told("many = d[0]\nmore = many\nd[1] += more"), [4])
        self.assertEqual(self.told("many = d[0][1]\nd[1][1] += many\nd.update(many)"), [3, 4])
        self.assertEqual(self.told("row = xs[0] if d else box\nxs.extend(row)"), [3])
        self.assertEqual(self.told("for row in xs[:]:\n    for x in list(row):\n        xs.extend(row)"), [4])
        self.assertEqual(self.told("low, high = xs[0]\nxs.extend(low)\nbox.extend(low)"), [3])
        self.assertEqual(self.told("other = d\nother[1] += d[0]\nrows = box.rows\nbox.rows += rows"), [3, 5])
        self.assertEqual(self.told("many = len(d[0])\nd[1] += many\nmore = xs[0]\nd[1] += more"), [])
