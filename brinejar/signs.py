"""The octets of characters and of digits."""

NEWLINE = 10
HEX_DIGITS = "0123456789abcdef"
HEX_VALUES = {
    "0": 0, "1": 1, "2": 2, "3": 3, "4": 4, "5": 5, "6": 6, "7": 7,
    "8": 8, "9": 9, "a": 10, "b": 11, "c": 12, "d": 13, "e": 14, "f": 15,
}
NO_SIGN = "\t"
# The character of each code, or the sign for a code whose character occurs in no text.
SIGNS = (
    "\t" * 10 + "\n" + "\t" * 21 + " !\"#$" + "\t"
    + "&'()*+,-./0123456789:;<=>?@ABCDEFGHIJKLMNOPQRSTUVWXYZ[\\]^_`abcdefghijklmnopqrstuvwxyz{|}~" + "\t" * 129
)
# Beside the escape of the backslash itself.
LINE_ESCAPES = (("\\n", "\n"),)
QUOTED_ESCAPES = (("\\n", "\n"), ("\\\"", "\""))


def codes_of(text):
    """Return the bytes with the codes of the characters."""
    return text.encode("latin-1")


def text_of(codes):
    """Return the characters with these codes, or None if one of them occurs in no text."""
    text = "".join([SIGNS[code] for code in codes])
    return None if NO_SIGN in text else text


def hex_text(numbers):
    """Return two digits for each number."""
    return "".join([f"{number:02x}" for number in numbers])


def numbers_of(text):
    """Return the tuple of the numbers that are written in two digits each, or None."""
    # Nothing is left of a text of digits without them.
    if len(text) % 2 == 1 or text.strip(HEX_DIGITS):
        return None
    return tuple([16 * HEX_VALUES[high] + HEX_VALUES[low] for high, low in zip(text[::2], text[1::2])])


def escaped(text):
    """Return the text with escapes for newlines and backslashes."""
    return text.replace("\\", "\\\\").replace("\n", "\\n")


def unescaped(line, escapes):
    """Return the text that is written with escapes, or None if an escape is wrong."""
    # Only the escape of a backslash has a backslash in its second place, so these can be taken out first.
    pieces = line.split("\\\\")
    for written, sign in escapes:
        pieces = [piece.replace(written, sign) for piece in pieces]
    if any(["\\" in piece for piece in pieces]):
        return None
    return "\\".join(pieces)
