"""Streams by the names of their opcodes, and all that must hold of a stream that is refused."""

from brinejar.checking import check, is_right, traced
from brinejar.describing import assembled
from brinejar.errors import Refused
from brinejar.loading import load
from brinejar.registry import Registry
from tests.helpers import caught
from tests.listing import TABLE

SINCE = {name: since for name, _, since in TABLE.values()}


def never_called(*given):
    """Fail: a hook that must not be called."""
    raise AssertionError(given)


def hooks():
    """Return a registry of an allowed brand and of entered ones, whose hooks must not be called."""
    registry = Registry("allowed", "a.b")
    registry.enter("none", never_called, never_called)
    registry.enter("two", never_called, never_called, takes=2, build=never_called)
    registry.enter("build", never_called, never_called, build=never_called)
    return registry


def rows_of(words):
    """Return the pairs of names and arguments; a word alone is the name of an opcode without an argument."""
    return tuple((word, None) if isinstance(word, str) else word for word in words)


def versions_of(words):
    """Return the versions in which all these opcodes exist."""
    return range(max([SINCE[name] for name, _ in rows_of(words)], default=1), 5)


def stream_of_words(version, *words):
    """Return the stream of these opcodes."""
    return assembled(rows_of(words), version)


def reason_of(*words, registry=None, has_outside=False):
    """Return the reason with which the last one of these opcodes is refused, in all versions that have them all."""
    rows = rows_of(words)
    reasons = set()
    for version in versions_of(words):
        stream = assembled(rows, version)
        # What one opcode takes is what it takes as the only one in version 3 or 4.
        width = len(assembled(rows[-1:], 4)) - 7
        reasons.add(refusal_at(stream, len(stream) - width, len(rows) - 1, registry or hooks(), has_outside))
    assert len(reasons) == 1, reasons
    return reasons.pop()


def refusal_at(stream, offset, count, registry, has_outside):
    """Return the reason, after checking all that must hold of a stream that is refused at this offset."""
    found = check(stream, registry, has_outside=has_outside)
    assert type(found) is tuple and found[0] == offset, (found, offset)
    reason = found[1]
    assert is_right(stream, registry, has_outside=has_outside) is False
    traced_names = []
    try:
        for _, name, _, _ in traced(stream, registry, has_outside=has_outside):
            traced_names.append(name)
        raise AssertionError("not refused")
    except Refused as error:
        assert (error.offset, error.reason) == found
    assert len([name for name in traced_names if name not in ("version", "frame")]) == count
    error = caught(Refused, load, stream, registry, outside=never_called if has_outside else None)
    assert (error.offset, error.reason) == found
    if reason != "rest":
        # Whatever follows, it is refused there, if no frame is different.
        assert check(stream + (163, 0, 255), registry, has_outside=has_outside) == found
    return reason


def right_in(version, *words, registry=None, has_outside=False):
    """Tell whether the stream of these opcodes and a stop is right, and check that all tell the same."""
    stream = stream_of_words(version, *words, "stop")
    found = check(stream, registry or hooks(), has_outside=has_outside)
    assert is_right(stream, registry or hooks(), has_outside=has_outside) is (found is None)
    if found is None:
        assert len(list(traced(stream, registry or hooks(), has_outside=has_outside))) >= len(words) + 1
    return found is None
