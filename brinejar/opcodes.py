"""The tables of the opcodes."""

from brinejar.atoms import is_integer
from brinejar.errors import NoName

# By their numbers: name, form of the argument, and the version since which the opcode exists.
OPCODES = {
    160: ("stop", "none", 1),
    161: ("version", "octet", 2),
    162: ("frame", "wide", 4),
    163: ("none", "none", 1),
    164: ("false", "none", 1),
    165: ("true", "none", 1),
    166: ("integer-line", "line", 1),
    167: ("integer-octet", "octet", 2),
    168: ("integer-counted", "counted", 2),
    169: ("text-line", "line", 1),
    170: ("text-wide", "wide-counted", 2),
    171: ("text-short", "counted", 3),
    172: ("octets-line", "line", 1),
    173: ("octets-wide", "wide-counted", 3),
    174: ("mark", "none", 1),
    175: ("drop", "none", 1),
    176: ("drop-to-mark", "none", 1),
    177: ("pack", "none", 1),
    178: ("pack-0", "none", 2),
    179: ("pack-1", "none", 2),
    180: ("pack-2", "none", 2),
    181: ("pack-3", "none", 2),
    182: ("row", "none", 1),
    183: ("append", "none", 1),
    184: ("append-all", "none", 2),
    185: ("book", "none", 1),
    186: ("enter", "none", 1),
    187: ("enter-all", "none", 2),
    188: ("bag", "none", 4),
    189: ("add-all", "none", 4),
    190: ("put-line", "line", 1),
    191: ("put-octet", "octet", 2),
    192: ("put-wide", "wide", 2),
    193: ("put-next", "none", 3),
    194: ("get-line", "line", 1),
    195: ("get-octet", "octet", 2),
    196: ("get-wide", "wide", 2),
    197: ("class-line", "line", 1),
    198: ("class-text", "none", 4),
    199: ("make", "none", 1),
    200: ("build", "none", 1),
    201: ("outer-line", "line", 1),
    202: ("outer-text", "none", 2),
}
# The same by their names, so that a name is found without a search.
NUMBERS = {
    "stop": 160, "version": 161, "frame": 162, "none": 163, "false": 164, "true": 165, "integer-line": 166,
    "integer-octet": 167, "integer-counted": 168, "text-line": 169, "text-wide": 170, "text-short": 171,
    "octets-line": 172, "octets-wide": 173, "mark": 174, "drop": 175, "drop-to-mark": 176, "pack": 177,
    "pack-0": 178, "pack-1": 179, "pack-2": 180, "pack-3": 181, "row": 182, "append": 183, "append-all": 184,
    "book": 185, "enter": 186, "enter-all": 187, "bag": 188, "add-all": 189, "put-line": 190,
    "put-octet": 191, "put-wide": 192, "put-next": 193, "get-line": 194, "get-octet": 195, "get-wide": 196,
    "class-line": 197, "class-text": 198, "make": 199, "build": 200, "outer-line": 201, "outer-text": 202,
}


def opcode_names():
    """Return the tuple of the names in the order of their numbers."""
    return tuple(list(NUMBERS))


def number_of(name):
    """Return the number of the opcode with this name."""
    if not is_opcode_name(name):
        raise NoName(name)
    return NUMBERS[name]


def name_of(number):
    """Return the name of the opcode with this number."""
    if not is_integer(number) or number not in OPCODES:
        raise NoName(number)
    return OPCODES[number][0]


def since(name):
    """Return the version since which the opcode with this name exists."""
    return OPCODES[number_of(name)][2]


def form_of(name):
    """Return the word for the form of the argument of the opcode with this name."""
    return OPCODES[number_of(name)][1]


def is_opcode_name(thing):
    """Tell whether thing is the name of an opcode."""
    return isinstance(thing, str) and thing in NUMBERS
