"""The octets of characters and of digits."""

NEWLINE = 10
HEX_DIGITS = "0123456789abcdef"


def codes_of(text):
    """Return the list of the codes of the characters."""
    return [ord(sign) for sign in text]


def hex_text(numbers):
    """Return two digits for each number."""
    return "".join([f"{number:02x}" for number in numbers])


def escaped(text):
    """Return the text with escapes for newlines and backslashes."""
    return text.replace("\\", "\\\\").replace("\n", "\\n")
