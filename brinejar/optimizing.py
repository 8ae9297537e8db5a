"""Leaving out of streams the numbers that are never got."""

from brinejar.arguments import family_of
from brinejar.dryrun import DryRun
from brinejar.errors import TooLong
from brinejar.steps import stream_of, with_least_memo
from brinejar.streams import require_stream, version_at_start


def optimized(stream, registry=None, *, has_outside=False):
    """Return a right stream with the least memo and with the frames that dump forms."""
    require_stream(stream)
    steps = steps_of(stream, registry, has_outside)
    return stream_of(with_least_memo(steps), version_at_start(stream))


def is_optimal(stream, registry=None, *, has_outside=False):
    """Tell whether optimizing changes nothing in a right stream."""
    try:
        return optimized(stream, registry, has_outside=has_outside) == stream
    except TooLong:
        # Only what is changed is longer than a stream can be.
        return False


def steps_of(stream, registry, has_outside):
    """Return the steps of a right stream, without its header and frames."""
    dry = DryRun(stream, registry, has_outside, {})
    steps = []
    while not dry.parser.is_done():
        dry.step()
        name, content = dry.plan[-1]
        if family_of(name) in ("put", "get"):
            steps.append((family_of(name), content))
        elif name not in ("version", "frame"):
            steps.append(("code", dry.parser.octets()))
    dry.parser.require_end()
    return steps
