"""Canonical streams, and their conversion to other versions."""

from brinejar.dryrun import DryRun
from brinejar.errors import NotCanonical, Refused, SelfArgument, TooDeep
from brinejar.sources import DraftSource
from brinejar.steps import stream_of, unlimited_stream_of
from brinejar.streams import require_stream, require_version, version_at_start
from brinejar.writing import dumped_steps


def is_canonical(stream, registry=None, *, has_outside=False):
    """Tell whether a stream is right and what dump returns for the draft of its result."""
    require_stream(stream)
    try:
        canonical_draft(stream, registry, has_outside)
    except (Refused, NotCanonical):
        return False
    return True


def converted(stream, version, registry=None, *, has_outside=False):
    """Return what dump returns in another version for the draft of a canonical stream."""
    require_stream(stream)
    require_version(version)
    draft = canonical_draft(stream, registry, has_outside)
    return stream_of(dumped_steps(draft, DraftSource(), version), version)


def canonical_draft(stream, registry, has_outside):
    """Return the draft of the result of a canonical stream."""
    dry = DryRun(stream, registry, has_outside, {})
    dry.finish()
    draft = dry.result()
    canonical = canonical_octets(draft, version_at_start(stream))
    if canonical != stream:
        raise NotCanonical(first_difference(stream, canonical))
    return draft


def canonical_octets(draft, version):
    """Return the octets that write a draft, however many they are."""
    try:
        steps = dumped_steps(draft, DraftSource(), version)
    except (TooDeep, SelfArgument):
        raise NotCanonical(0) from None
    return unlimited_stream_of(steps, version)


def first_difference(first, second):
    """Return the first index at which two tuples differ, or the length of the shorter one."""
    for index, (one, other) in enumerate(zip(first, second)):
        if one != other:
            return index
    return min(len(first), len(second))
