"""Tokens: what the texts of questions and checks consist of."""

from listandpage.basics import is_letters, is_word
from listandpage.errors import ListandpageError
from listandpage.schemas import RESERVED

# Signs of two characters; any other sign is a single one.
PAIRS = ("!=", "==", "<=", ">=")
MOST_DIGITS = 12


class Fault(ListandpageError):
    """The first place at which a text is wrong; the class of the text tells it by an error of its own."""

    def __init__(self, line, at):
        self.line = line
        self.at = at


class Token:
    """A token and where it begins. The end of a line is an empty one."""

    def __init__(self, text, line, at):
        self.text = text
        self.line = line
        self.at = at


def read_tokens(text, line):
    """The tokens of a line, and its end. A character that begins no token counts as one."""
    tokens = []
    at = 0
    while at < len(text):
        size = _size(text, at)
        if text[at] != " ":
            tokens.append(Token(text[at:at + size], line, at))
        at = at + size
    tokens.append(Token("", line, len(text)))
    return tokens


def _size(text, at):
    """The length of the token, the space or the stray character at a position."""
    if _kind(text[at]) != "other":
        end = at + 1
        while end < len(text) and _kind(text[end]) == _kind(text[at]):
            end += 1
        return end - at
    if text[at] == "'":
        end = text.find("'", at + 1)
        return end + 1 - at if end > at and is_word(text[at + 1:end]) else 1
    return 2 if text[at:at + 2] in PAIRS else 1


def _kind(character):
    """Whether a character is a letter, a digit or something other."""
    if character.isascii() and character.isalpha():
        return "letter"
    return "digit" if "0" <= character <= "9" else "other"


def is_name_token(text):
    """Whether the text of a token is a NAME: letters a to z that are not reserved, however many."""
    return is_letters(text) and text not in RESERVED


def is_word_token(text):
    """Whether the text of a token is a word between apostrophes; a stray apostrophe is none."""
    return text.startswith("'") and len(text) > 1


def is_digits(text):
    """Whether the text of a token consists of digits."""
    return text.isascii() and text.isdigit()


def is_number_token(text):
    """Whether the text of a token is a NUMBER: at most twelve digits without a leading zero."""
    return is_digits(text) and len(text) <= MOST_DIGITS and (text == "0" or not text.startswith("0"))


def spell(tokens):
    """The tokens with one space between two of them, and none beside a dot."""
    spelled = ""
    last = "."
    for token in tokens:
        gap = "" if "." in (last, token.text) else " "
        spelled = spelled + gap + token.text
        last = token.text
    return spelled
