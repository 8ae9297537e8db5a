"""What several test files need."""


def caught(error_class, call, *given, **named):
    """Return the error of exactly this class that the call raises."""
    try:
        call(*given, **named)
    except (ValueError, RuntimeError, LookupError, TypeError) as error:
        if type(error) is error_class:
            return error
        raise AssertionError(f"{error!r} instead of {error_class.__name__}") from error
    raise AssertionError(f"no {error_class.__name__}")


class Stranger:
    """An object that is nothing of what the program takes."""


# None, True and other objects are added where they are wrong, too.
NEVER_VALUES = ((), (1,), [], [1], {}, {1: 2}, 1.5, b"ab", Stranger(), Stranger, print,
                10 ** 300, -(10 ** 300), "a" * 2001)
NEVER_KEYS = NEVER_VALUES + (None, True, False)
EDGE_INTEGERS = (0, 1, -1, 10 ** 300 - 1, 1 - 10 ** 300)
EDGE_TEXTS = ("", "a", "a\nb ~", "a" * 2000)
EDGE_ATOMS = (None, True, False) + EDGE_INTEGERS + EDGE_TEXTS
