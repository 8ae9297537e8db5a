"""What the arguments of opcodes are, and how they are read from their octets."""

from brinejar.atoms import OCTET_LIMIT, are_octets, is_brand, is_integer, is_key, is_text
from brinejar.choices import SHORT_TEXT_LIMIT
from brinejar.nodes import NUMBERS_LIMIT
from brinejar.opcodes import form_of
from brinejar.signs import LINE_ESCAPES, numbers_of, text_of, unescaped
from brinejar.streams import LAST_VERSION

MEMO_LIMIT = 9999
DIGITS_LIMIT = 300


def family_of(name):
    """Return the word before the first dash of the name of an opcode."""
    return name.partition("-")[0]


def is_argument(name, argument):
    """Tell whether an opcode can have this argument."""
    if form_of(name) == "none":
        return argument is None
    family = family_of(name)
    if family in ("text", "outer"):
        return is_text(argument) and (name != "text-short" or len(argument) <= SHORT_TEXT_LIMIT)
    if family == "class":
        return is_brand(argument)
    if family == "octets":
        return are_octets(argument, NUMBERS_LIMIT)
    return is_integer(argument) and is_number_argument(name, argument)


def is_number_argument(name, number):
    """Tell whether an opcode whose argument is an integer can have this one."""
    if name == "version":
        return 2 <= number <= LAST_VERSION
    if name == "frame":
        return number >= 1
    if form_of(name) == "octet":
        return 0 <= number < OCTET_LIMIT
    if family_of(name) == "integer":
        return is_key(number)
    return 0 <= number <= MEMO_LIMIT


def argument_of(name, content):
    """Return the argument with these octets, or None if it is wrong.

    The content is without the octet that ends a line and without the length in front.
    """
    form = form_of(name)
    if form == "line":
        argument = line_argument(name, text_of(content))
    elif form in ("octet", "wide"):
        argument = natural_of(content)
    else:
        argument = counted_argument(name, content)
    return argument if is_argument(name, argument) else None


def line_argument(name, line):
    """Return what is written in a line, or None if it is written wrongly."""
    if line is None:
        return None
    family = family_of(name)
    if family in ("integer", "put", "get"):
        return integer_of(line)
    if family == "octets":
        return numbers_of(line)
    return unescaped(line, LINE_ESCAPES)


def counted_argument(name, content):
    """Return what is written in octets behind their number, or None if it is written wrongly."""
    family = family_of(name)
    if family == "integer":
        return signed_of(content)
    return content if family == "octets" else text_of(content)


def integer_of(line):
    """Return the integer in decimal digits, or None if it is too long or has needless signs."""
    digits = line.removeprefix("-")
    # Python itself refuses to read integers of very many digits.
    if not digits.isdigit() or len(digits) > DIGITS_LIMIT or str(int(line)) != line:
        return None
    return int(line)


def natural_of(content):
    """Return the number in these octets, the least significant one first."""
    number = 0
    for octet in content[::-1]:
        number = number * OCTET_LIMIT + octet
    return number


def signed_of(content):
    """Return the integer in two's complement, or None if there are no octets."""
    if not content:
        return None
    number = natural_of(content)
    if content[-1] < OCTET_LIMIT // 2:
        return number
    return number - (1 << (8 * len(content)))
