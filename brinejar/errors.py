"""The errors of the package, in three families; only the other classes are raised."""


class JarError(ValueError):
    """The family of errors about what was passed."""


class StateError(RuntimeError):
    """The family of errors about what cannot be done now."""


class MissingError(LookupError):
    """The family of errors about what is not there."""


class InvalidValue(JarError):
    """An object that is no value."""

    def __init__(self, value):
        self.value = value


class InvalidNumbers(JarError):
    """An object that is no tuple of numbers for Octets."""

    def __init__(self, value):
        self.value = value


class InvalidKey(JarError):
    """An object that is no key or no label."""

    def __init__(self, key):
        self.key = key


class InvalidIndex(JarError):
    """An object that is no index into a Row."""

    def __init__(self, index):
        self.index = index


class InvalidBrand(JarError):
    """An object that is no brand, or the reserved one."""

    def __init__(self, given):
        self.given = given


class InvalidTakes(JarError):
    """An object that is no number of arguments."""

    def __init__(self, value):
        self.value = value


class InvalidVersion(JarError):
    """An object that is no version."""

    def __init__(self, value):
        self.value = value


class InvalidStream(JarError):
    """An object that is no stream."""

    def __init__(self, value):
        self.value = value


class InvalidLabel(JarError):
    """An answer of outside that is neither None nor a text."""

    def __init__(self, value):
        self.value = value


class InvalidReduction(JarError):
    """A brand whose reduce hook returned no such pair as it must."""

    def __init__(self, given):
        self.given = given


class InvalidMade(JarError):
    """A brand whose make hook did not return a Thing."""

    def __init__(self, given):
        self.given = given


class InvalidRow(JarError):
    """The place of what is no row of a description."""

    def __init__(self, position):
        self.position = position


class InvalidName(JarError):
    """An object that is no name of a stream."""

    def __init__(self, given):
        self.given = given


class InvalidEdit(JarError):
    """The place of what is no edit."""

    def __init__(self, position):
        self.position = position


class InvalidText(JarError):
    """The place at which a text is wrong."""

    def __init__(self, offset):
        self.offset = offset


class Refused(JarError):
    """A stream that is not right: where, and why."""

    def __init__(self, offset, reason):
        self.offset = offset
        self.reason = reason


class NotCanonical(JarError):
    """The place at which a stream differs from the canonical one."""

    def __init__(self, offset):
        self.offset = offset


class TooDeep(StateError):
    """More values would be open at once than the limit."""

    def __init__(self, limit):
        self.limit = limit


class TooLong(StateError):
    """A stream would have more octets than the limit."""

    def __init__(self, limit):
        self.limit = limit


class SelfArgument(StateError):
    """The brand of a thing that is met within its own arguments."""

    def __init__(self, given):
        self.given = given


class KeyTaken(StateError):
    """A key that is there already."""

    def __init__(self, key):
        self.key = key


class BrandTaken(StateError):
    """A brand that is known already."""

    def __init__(self, given):
        self.given = given


class Full(StateError):
    """There would be more than the limit."""

    def __init__(self, limit):
        self.limit = limit


class UnknownBrand(MissingError):
    """A brand that is not known."""

    def __init__(self, given):
        self.given = given


class NoEntry(MissingError):
    """A key or a label that is not there."""

    def __init__(self, key):
        self.key = key


class NoName(MissingError):
    """A name that is not there."""

    def __init__(self, given):
        self.given = given


class NothingToUndo(MissingError):
    """There is no change that can be taken back."""

    def __init__(self, count):
        self.count = count
