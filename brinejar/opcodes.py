"""The table of the opcodes."""

from brinejar.atoms import is_integer
from brinejar.errors import NoName

FIRST_NUMBER = 160

# Number, name, form of the argument, and the version since which the opcode exists.
OPCODES = (
    (160, "stop", "none", 1),
    (161, "version", "octet", 2),
    (162, "frame", "wide", 4),
    (163, "none", "none", 1),
    (164, "false", "none", 1),
    (165, "true", "none", 1),
    (166, "integer-line", "line", 1),
    (167, "integer-octet", "octet", 2),
    (168, "integer-counted", "counted", 2),
    (169, "text-line", "line", 1),
    (170, "text-wide", "wide-counted", 2),
    (171, "text-short", "counted", 3),
    (172, "octets-line", "line", 1),
    (173, "octets-wide", "wide-counted", 3),
    (174, "mark", "none", 1),
    (175, "drop", "none", 1),
    (176, "drop-to-mark", "none", 1),
    (177, "pack", "none", 1),
    (178, "pack-0", "none", 2),
    (179, "pack-1", "none", 2),
    (180, "pack-2", "none", 2),
    (181, "pack-3", "none", 2),
    (182, "row", "none", 1),
    (183, "append", "none", 1),
    (184, "append-all", "none", 2),
    (185, "book", "none", 1),
    (186, "enter", "none", 1),
    (187, "enter-all", "none", 2),
    (188, "bag", "none", 4),
    (189, "add-all", "none", 4),
    (190, "put-line", "line", 1),
    (191, "put-octet", "octet", 2),
    (192, "put-wide", "wide", 2),
    (193, "put-next", "none", 3),
    (194, "get-line", "line", 1),
    (195, "get-octet", "octet", 2),
    (196, "get-wide", "wide", 2),
    (197, "class-line", "line", 1),
    (198, "class-text", "none", 4),
    (199, "make", "none", 1),
    (200, "build", "none", 1),
    (201, "outer-line", "line", 1),
    (202, "outer-text", "none", 2),
)


def opcode_names():
    """Return the tuple of the names in the order of their numbers."""
    return tuple([row[1] for row in OPCODES])


def number_of(name):
    """Return the number of the opcode with this name."""
    return row_of_name(name)[0]


def name_of(number):
    """Return the name of the opcode with this number."""
    if not is_opcode_number(number):
        raise NoName(number)
    return OPCODES[number - FIRST_NUMBER][1]


def since(name):
    """Return the version since which the opcode with this name exists."""
    return row_of_name(name)[3]


def form_of(name):
    """Return the word for the form of the argument of the opcode with this name."""
    return row_of_name(name)[2]


def is_opcode_number(thing):
    """Tell whether thing is the number of an opcode."""
    return is_integer(thing) and 0 <= thing - FIRST_NUMBER < len(OPCODES)


def row_of_name(name):
    """Return the row of the table with this name."""
    if isinstance(name, str):
        for row in OPCODES:
            if row[1] == name:
                return row
    raise NoName(name)
