"""From the name and the argument of an opcode to its octets."""

from brinejar.opcodes import form_of, number_of
from brinejar.signs import NEWLINE, codes_of, escaped, hex_text

WIDE_OCTETS = 4


def octets_of(name, argument=None):
    """Return the tuple of the octets of an opcode."""
    number = number_of(name)
    form = form_of(name)
    if form == "none":
        return (number,)
    first, last = argument_octets(form, argument)
    # Texts are long, so their octets are copied only here.
    return (number, *first, *last)


def argument_octets(form, argument):
    """Return the pair of the first and the last octets of an argument."""
    if form == "octet":
        return (), (argument,)
    if form == "wide":
        return (), wide_octets(argument)
    if form == "line":
        return codes_of(line_of(argument)), (NEWLINE,)
    content = counted_octets(argument)
    if form == "counted":
        return (len(content),), content
    return wide_octets(len(content)), content


def line_of(argument):
    """Return the characters of an argument that is a line, without the octet 10."""
    if isinstance(argument, int):
        return str(argument)
    if isinstance(argument, tuple):
        return hex_text(argument)
    return escaped(argument)


def counted_octets(argument):
    """Return the octets of an argument that has a length in front of them."""
    if isinstance(argument, int):
        return least_octets(argument)
    if isinstance(argument, tuple):
        return argument
    return codes_of(argument)


def wide_octets(number):
    """Return four octets, the least significant one first."""
    return low_octets(number, WIDE_OCTETS)


def least_octets(integer):
    """Return the two's complement of an integer in the least number of octets."""
    magnitude = integer if integer >= 0 else -integer - 1
    # One bit more than the magnitude needs, for the sign.
    return low_octets(integer, magnitude.bit_length() // 8 + 1)


def low_octets(integer, count):
    """Return so many octets of an integer, the least significant one first."""
    octets = []
    rest = integer
    for _ in range(count):
        octets.append(rest & 255)
        rest = rest >> 8
    return octets
