"""Tokens: what the texts of questions and checks consist of.

A token is a string. Where it stands in its text is found out only where something is wrong.
"""

from listandpage.basics import is_word
from listandpage.errors import ListandpageError
from listandpage.schemas import RESERVED

# Signs of two characters; any other sign is a single one.
PAIRS = ("!=", "==", "<=", ">=")
# Single signs that begin no longer one, so that they end what stands before them wherever they stand.
SINGLES = ("(", ")", "[", "]", ",", ".", ":")
MOST_DIGITS = 12
# The end of a line counts as a token behind the others.
END = ""


class Fault(ListandpageError):
    """The first place at which a text is wrong: a token by its index in its line, -1 for the line as a whole.

    The class of the text tells it by an error of its own.
    """

    def __init__(self, line, place):
        self.line = line
        self.place = place


class Token:
    """A token that is a name or a word by itself, and where it stands."""

    def __init__(self, text, line, place):
        self.text = text
        self.line = line
        self.place = place


def read_tokens(text, known):
    """The tokens of a line. known keeps the tokens of the pieces that were met before."""
    for sign in SINGLES:
        text = text.replace(sign, f" {sign} ")
    tokens = []
    for piece in text.split(" "):
        if piece not in known:
            known[piece] = read_piece(piece)
        tokens.extend(known[piece])
    return tokens


def read_piece(piece):
    """The tokens of a piece of a line without spaces. A character that begins no token counts as one."""
    if piece in SINGLES or (piece.isascii() and piece.isalpha()):
        return [piece]
    tokens = []
    at = 0
    while at < len(piece):
        size = _size(piece, at)
        tokens.append(piece[at:at + size])
        at = at + size
    return tokens


def _size(text, at):
    """The length of the token or the stray character at a position."""
    if _kind(text[at]) != "other":
        end = at + 1
        while end < len(text) and _kind(text[end]) == _kind(text[at]):
            end += 1
        return end - at
    if text[at] == "'":
        end = text.find("'", at + 1)
        return end + 1 - at if end > at and is_word(text[at + 1:end]) else 1
    return 2 if text[at:at + 2] in PAIRS else 1


def _kind(character):
    """Whether a character is a letter, a digit or something other."""
    if character.isascii() and character.isalpha():
        return "letter"
    return "digit" if "0" <= character <= "9" else "other"


def find_place(text, tokens, place):
    """The position of a token in the text of a line; that of the end is the length of the text."""
    if place >= len(tokens):
        return len(text)
    at = 0
    for token in tokens[:place]:
        # Between two tokens there are spaces alone.
        at = text.find(token, at) + len(token)
    return text.find(tokens[place], at)


def is_name_token(text):
    """Whether a token is a NAME: letters a to z that are not reserved, however many."""
    return text.isalpha() and text.islower() and text.isascii() and text not in RESERVED


def is_word_token(text):
    """Whether a token is a word between apostrophes; a stray apostrophe is none."""
    return text.startswith("'") and len(text) > 1


def is_digits(text):
    """Whether a token consists of digits."""
    return text.isascii() and text.isdigit()


def is_number_token(text):
    """Whether a token is a NUMBER: at most twelve digits without a leading zero."""
    return is_digits(text) and len(text) <= MOST_DIGITS and (text == "0" or not text.startswith("0"))


def spell(tokens):
    """The tokens with one space between two of them, and none beside a dot."""
    return " ".join(tokens).replace(" . ", ".")
