"""The octets of characters and of digits."""

NEWLINE = 10
HEX_DIGITS = "0123456789abcdef"
# No text contains the character between these two rows of characters.
LOW_SIGNS = " !\"#$"
LOW_CODE = 32
HIGH_SIGNS = "&'()*+,-./0123456789:;<=>?@ABCDEFGHIJKLMNOPQRSTUVWXYZ[\\]^_`abcdefghijklmnopqrstuvwxyz{|}~"
HIGH_CODE = 38
# Beside the escape of the backslash itself.
LINE_ESCAPES = (("\\n", "\n"),)
QUOTED_ESCAPES = (("\\n", "\n"), ("\\\"", "\""))


def codes_of(text):
    """Return the list of the codes of the characters."""
    return [ord(sign) for sign in text]


def sign_of(code):
    """Return the character with this code, or None if it occurs in no text."""
    if code == NEWLINE:
        return "\n"
    if LOW_CODE <= code < LOW_CODE + len(LOW_SIGNS):
        return LOW_SIGNS[code - LOW_CODE]
    if HIGH_CODE <= code < HIGH_CODE + len(HIGH_SIGNS):
        return HIGH_SIGNS[code - HIGH_CODE]
    return None


def text_of(codes):
    """Return the characters with these codes, or None if one of them occurs in no text."""
    signs = [sign_of(code) for code in codes]
    return None if None in signs else "".join(signs)


def hex_text(numbers):
    """Return two digits for each number."""
    return "".join([f"{number:02x}" for number in numbers])


def numbers_of(text):
    """Return the tuple of the numbers that are written in two digits each, or None."""
    digits = [HEX_DIGITS.find(sign) for sign in text]
    if len(digits) % 2 == 1 or -1 in digits:
        return None
    return tuple([16 * high + low for high, low in zip(digits[::2], digits[1::2])])


def escaped(text):
    """Return the text with escapes for newlines and backslashes."""
    return text.replace("\\", "\\\\").replace("\n", "\\n")


def unescaped(line, escapes):
    """Return the text that is written with escapes, or None if an escape is wrong."""
    # Only the escape of a backslash has a backslash in its second place, so these can be taken out first.
    pieces = line.split("\\\\")
    for written, sign in escapes:
        pieces = [piece.replace(written, sign) for piece in pieces]
    if any(["\\" in piece for piece in pieces]):
        return None
    return "\\".join(pieces)
