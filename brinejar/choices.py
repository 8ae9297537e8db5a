"""Which opcode of a version writes an atom, Octets, a put or a get."""

from brinejar.atoms import OCTET_LIMIT

SHORT_TEXT_LIMIT = 255


def atom_opcode(version, atom):
    """Return the name of the opcode that writes an atom."""
    if atom is None:
        return "none"
    if isinstance(atom, bool):
        return "true" if atom else "false"
    if isinstance(atom, int):
        return integer_opcode(version, atom)
    return text_opcode(version, atom)


def integer_opcode(version, integer):
    """Return the name of the opcode that writes an integer."""
    if version == 1:
        return "integer-line"
    return "integer-octet" if 0 <= integer < OCTET_LIMIT else "integer-counted"


def text_opcode(version, text):
    """Return the name of the opcode that writes a text."""
    if version == 1:
        return "text-line"
    return "text-short" if version >= 3 and len(text) <= SHORT_TEXT_LIMIT else "text-wide"


def octets_opcode(version):
    """Return the name of the opcode that writes Octets."""
    return "octets-line" if version <= 2 else "octets-wide"


def put_opcode(version, number):
    """Return the name of the opcode that gives a number."""
    if version == 1:
        return "put-line"
    if version >= 3:
        return "put-next"
    return "put-octet" if number < OCTET_LIMIT else "put-wide"


def get_opcode(version, number):
    """Return the name of the opcode that pushes the value with a number."""
    if version == 1:
        return "get-line"
    return "get-octet" if number < OCTET_LIMIT else "get-wide"
