"""Checking streams by the dry run."""

from brinejar.dryrun import DryRun
from brinejar.errors import Refused
from brinejar.streams import require_stream, version_at_start


def version_of(stream):
    """Return the version of a stream, also of a wrong one."""
    require_stream(stream)
    return version_at_start(stream)


def check(stream, registry=None, *, has_outside=False):
    """Return None for a right stream, otherwise the offset and the reason."""
    require_stream(stream)
    dry = DryRun(stream, registry, has_outside, {})
    try:
        dry.finish()
    except Refused as wrong:
        return wrong.offset, wrong.reason
    return None


def is_right(stream, registry=None, *, has_outside=False):
    """Tell whether a stream is right."""
    return check(stream, registry, has_outside=has_outside) is None


def traced(stream, registry=None, *, has_outside=False):
    """Yield the offset, the name, the shapes on the stack and the size of the memo for each opcode."""
    require_stream(stream)
    dry = DryRun(stream, registry, has_outside, {})
    while not dry.parser.is_done():
        dry.step()
        yield dry.parser.offset, dry.parser.name, dry.shapes(), dry.given_numbers()
    dry.parser.require_end()
