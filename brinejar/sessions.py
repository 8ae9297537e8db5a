"""Writers and readers, which keep their memo over many streams."""

from brinejar.arguments import MEMO_LIMIT
from brinejar.dryrun import DryRun
from brinejar.loading import result_of_run
from brinejar.registry import registry_or_empty
from brinejar.sources import HookSource
from brinejar.steps import stream_of
from brinejar.streams import require_stream, require_version
from brinejar.writing import Writing


class Writer:
    """Writes values one after the other; what has a number is got in later streams."""

    def __init__(self, registry=None, *, version=4, outside=None):
        require_version(version)
        self._registry = registry_or_empty(registry)
        self._version = version
        self._outside_hook = outside
        self._memo = {}

    def write(self, value):
        """Return the stream of a value."""
        # An error leaves the memo as it was, because only a copy is written with.
        memo = dict(self._memo)
        source = HookSource(self._registry, self._outside_hook)
        writing = Writing(source, self._version, memo, MEMO_LIMIT)
        writing.write_whole(value)
        stream = stream_of(writing.steps, self._version)
        self._memo = memo
        return stream

    @property
    def memo_size(self):
        """The number of given numbers."""
        return len(self._memo)

    def clear_memo(self):
        """Forget all numbers."""
        self._memo = {}


class Reader:
    """Loads streams one after the other; what has a number can be got in later streams."""

    def __init__(self, registry=None, *, outside=None):
        self._registry = registry_or_empty(registry)
        self._outside_hook = outside
        # The numbers of one are always those of the other one.
        self._drafts = {}
        self._numbered = {}

    def read(self, stream):
        """Return the result of the run of a stream; a wrong stream is not run."""
        require_stream(stream)
        # An error leaves the memo as it was, because only copies are run with.
        drafts = dict(self._drafts)
        dry = DryRun(stream, self._registry, self._outside_hook is not None, drafts)
        dry.finish()
        numbered = dict(self._numbered)
        result = result_of_run(dry.plan, self._outside_hook, numbered)
        self._drafts = drafts
        self._numbered = numbered
        return result

    @property
    def memo_size(self):
        """The number of given numbers."""
        return len(self._numbered)

    def clear_memo(self):
        """Forget all numbers."""
        self._drafts = {}
        self._numbered = {}
