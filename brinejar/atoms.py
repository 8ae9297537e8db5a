"""What counts as an integer, a text, an atom, a key, a brand and a tuple of octets."""

# Ten to the power of 300, by exponents of at most two digits.
ATOM_LIMIT = (10 ** 60) ** 5
TEXT_LIMIT = 2000
BRAND_LIMIT = 40
LETTERS = "abcdefghijklmnopqrstuvwxyzABCDEFGHIJKLMNOPQRSTUVWXYZ"
OTHER_BRAND_SIGNS = "0123456789_."
RESERVED_BRAND = "bag"
OCTET_LIMIT = 256


def is_integer(thing):
    """Tell whether thing is an integer; True and False are none."""
    return isinstance(thing, int) and not isinstance(thing, bool)


def is_text(thing):
    """Tell whether thing is a text."""
    return isinstance(thing, str) and len(thing) <= TEXT_LIMIT


def is_key(thing):
    """Tell whether thing is an integer atom or a text."""
    if is_integer(thing):
        return -ATOM_LIMIT < thing < ATOM_LIMIT
    return is_text(thing)


def is_atom(thing):
    """Tell whether thing is None, True, False, an integer in the range or a text."""
    return thing is None or isinstance(thing, bool) or is_key(thing)


def is_brand(thing):
    """Tell whether thing is a brand, the reserved one included."""
    if not isinstance(thing, str) or not 1 <= len(thing) <= BRAND_LIMIT:
        return False
    return thing[0] in LETTERS and all([sign in LETTERS or sign in OTHER_BRAND_SIGNS for sign in thing])


def is_free_brand(thing):
    """Tell whether thing is a brand that things can have."""
    return is_brand(thing) and thing != RESERVED_BRAND


def same_atom(first, second):
    """Tell whether two atoms are equal and of the same kind."""
    # Python takes True for 1, which is another kind of atom.
    return isinstance(first, bool) == isinstance(second, bool) and first == second


def are_octets(thing, limit):
    """Tell whether thing is a tuple of at most so many integers from 0 to 255."""
    if not isinstance(thing, tuple) or len(thing) > limit:
        return False
    # Streams are long: to ask few items whole, and each number once, takes a third of the time.
    others = [item for item in thing if type(item) != int]
    return all([is_integer(item) for item in others]) and all([0 <= item < OCTET_LIMIT for item in sorted(set(thing))])
