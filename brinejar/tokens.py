"""The tokens of graph texts."""

from brinejar.arguments import integer_of
from brinejar.atoms import LETTERS, OTHER_BRAND_SIGNS, RESERVED_BRAND, are_octets, is_brand, is_text
from brinejar.errors import InvalidText
from brinejar.nodes import NUMBERS_LIMIT
from brinejar.signs import QUOTED_ESCAPES, numbers_of, unescaped

DIGITS = "0123456789"
# Longer ones before those that they begin with.
PLAIN_TOKENS = (",)", ", ", ": ", "(", ")", "[", "]", "{", "}")
NAMES = {"None": None, "True": True, "False": False}


class Tokens:
    """The token that was read last: its kind, its content, and the offset at which it begins."""

    def __init__(self, text):
        self.kind = ""
        self.content = None
        self.offset = 0
        self._text = text
        self._end = 0

    def advance(self):
        """Read the next token; behind the last one it is of the kind "end"."""
        self.offset = self._end
        token = token_at(self._text, self.offset)
        self.require(token is not None)
        self.kind, self.content, self._end = token

    def require(self, holds):
        """Raise InvalidText if the token cannot stand where it does."""
        if not holds:
            raise InvalidText(self.offset)


def token_at(text, start):
    """Return the kind, the content and the end of the token at an offset, or None if there is no right one."""
    if start == len(text):
        return "end", None, start
    sign = text[start]
    if sign in LETTERS:
        return word_token(text, start)
    if sign == "-" or sign in DIGITS:
        return integer_token(text, start)
    if sign == "#":
        return number_token(text, start)
    if sign == "\"":
        return text_token(text, start)
    return octets_token(text, start) if sign == "<" else plain_token(text, start)


def word_token(text, start):
    """Return the token of a brand with its brace, or of a name."""
    end = end_of_run(text, start, LETTERS + OTHER_BRAND_SIGNS)
    brand = text[start:end]
    if text[end:end + 1] == "{" and is_brand(brand):
        return "bag" if brand == RESERVED_BRAND else "brand", brand, end + 1
    for name, atom in NAMES.items():
        if brand.startswith(name):
            return "atom", atom, start + len(name)
    return None


def integer_token(text, start):
    """Return the token of an integer."""
    end = end_of_run(text, start + 1, DIGITS)
    integer = integer_of(text[start:end])
    return None if integer is None else ("integer", integer, end)


def number_token(text, start):
    """Return the token that gives a number to the node behind it, or that stands for the node with a number."""
    end = end_of_run(text, start + 1, DIGITS)
    number = integer_of(text[start + 1:end])
    if number is None:
        return None
    return ("giving", number, end + 1) if text[end:end + 1] == "=" else ("given", number, end)


def text_token(text, start):
    """Return the token of a text."""
    end = end_of_text(text, start + 1)
    written = text[start + 1:end]
    content = unescaped(written, QUOTED_ESCAPES)
    if end == len(text) or "\n" in written or not is_text(content):
        return None
    return "text", content, end + 1


def octets_token(text, start):
    """Return the token of Octets."""
    end = text.find(">", start)
    numbers = numbers_of(text[start + 1:end])
    if end < 0 or not are_octets(numbers, NUMBERS_LIMIT):
        return None
    return "octets", numbers, end + 1


def plain_token(text, start):
    """Return the token that consists of always the same signs."""
    for token in PLAIN_TOKENS:
        if text.startswith(token, start):
            return token, None, start + len(token)
    return None


def end_of_run(text, start, signs):
    """Return the offset of the first character that is none of the signs, or the length."""
    end = start
    while end < len(text) and text[end] in signs:
        end += 1
    return end


def end_of_text(text, start):
    """Return the offset of the quote that ends a text, or the length if there is none."""
    end = start
    while end < len(text) and text[end] != "\"":
        end += 2 if text[end] == "\\" else 1
    return min(end, len(text))
