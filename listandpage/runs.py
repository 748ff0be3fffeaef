"""Runs: checks line by line, and what a right admits on a store with changes."""

from listandpage.blocks import For, If, Named
from listandpage.worlds import StoreWorld


def what_if(store, changes, right, thing, user):
    """What the right admits when the changes have been made; the store stays as it is."""
    tried = store.copy()
    for table, at, column, value in changes:
        tried.change(table, at, column, value)
    return right.admits(tried, thing, user)


class Piece:
    """Statements that are still to be run, the rows that their paths begin from, and those of the `for` around."""

    def __init__(self, statements, chosen, around):
        self.statements = statements
        self.chosen = chosen
        self.around = around


class Runner:
    """Begins the statements of a check one by one.

    pieces: what is still to be run, the next one last. ended: None, or the value, the line
    and the rows around of the `return` that ended the check.
    """

    def __init__(self, check, store, thing, user):
        check.need_place(store, [(check.table, thing), (check.schema.user, user)])
        self.world = StoreWorld(store)
        self.pieces = [Piece(check.body.root.block.statements, (thing, user), ())]
        self.ended = None

    def is_running(self):
        """Whether a statement is still to be begun."""
        while self.pieces and not self.pieces[-1].statements:
            self.pieces.pop()
        return bool(self.pieces)

    def begin_next(self):
        """Begin the next statement; return its line and its value."""
        piece = self.pieces.pop()
        self.pieces.append(Piece(piece.statements[1:], piece.chosen, piece.around))
        statement = piece.statements[0]
        if isinstance(statement, Named):
            return statement.line, statement.path.follow(self.world, piece.chosen)
        if isinstance(statement, For):
            return statement.line, self.begin_loop(statement, piece)
        truth = statement.test.claim(self.world, piece.chosen, True)
        if isinstance(statement, If):
            block = statement.block if truth else statement.otherwise
            self.pieces.append(Piece(block.statements, piece.chosen, piece.around))
        else:
            self.pieces = []
            self.ended = (truth, statement.line, piece.around)
        return statement.line, truth

    def begin_loop(self, statement, piece):
        """Let the block of a `for` be run for each row; return their number."""
        walk = statement.walk
        found = walk.list_of(self.world, piece.chosen)
        for row in found[::-1]:
            around = piece.around + ((walk.link.table, row),)
            self.pieces.append(Piece(walk.content.block.statements, piece.chosen + (row,), around))
        return len(found)


def steps(check, store, thing, user):
    """The line and the value of each statement of a check that is begun, in order."""
    runner = Runner(check, store, thing, user)
    while runner.is_running():
        yield runner.begin_next()


class Run:
    """How a check went: what it told, the `return` that ended it, and all lines that were begun."""

    def __init__(self, lines, ended):
        opens, line, around = (False, -1, ()) if ended is None else ended
        self.opens = opens
        self.line = line
        self.lines = tuple(lines)
        self.around = around


def run(check, store, thing, user):
    """Run a check."""
    runner = Runner(check, store, thing, user)
    lines = []
    while runner.is_running():
        line, _ = runner.begin_next()
        lines.append(line)
    return Run(lines, runner.ended)
