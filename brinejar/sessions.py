"""Writers and readers, which keep their memo over many streams."""

from brinejar.arguments import MEMO_LIMIT
from brinejar.crews import LeadingCrew, NotingCrew
from brinejar.dryrun import DryRun
from brinejar.errors import Refused
from brinejar.loading import result_of_run
from brinejar.registry import registry_or_empty
from brinejar.sources import HookSource
from brinejar.steps import stream_of
from brinejar.streams import require_stream, require_version
from brinejar.writing import Writing


class Writer:
    """Writes values one after the other; what has a number is got in later streams."""

    def __init__(self, registry=None, *, version=4, outside=None):
        require_version(version)
        self._registry = registry_or_empty(registry)
        self._version = version
        self._outside_hook = outside
        self._memo = {}

    def write(self, value):
        """Return the stream of a value."""
        # An error leaves the memo as it was, because only a copy is written with.
        memo = dict(self._memo)
        source = HookSource(self._registry, self._outside_hook)
        writing = Writing(source, self._version, memo, MEMO_LIMIT)
        writing.write_whole(value)
        stream = stream_of(writing.steps, self._version)
        self._memo = memo
        return stream

    @property
    def memo_size(self):
        """The number of given numbers."""
        return len(self._memo)

    def clear_memo(self):
        """Forget all numbers."""
        self._memo = {}


class Reader:
    """Loads streams one after the other; what has a number can be got in later streams."""

    def __init__(self, registry=None, *, outside=None):
        self._registry = registry_or_empty(registry)
        self._outside_hook = outside
        # The numbers of one are always those of the other one, and drafts know what their values have.
        self._drafts = {}
        self._numbered = {}

    def read(self, stream):
        """Return the result of the run of a stream; a wrong stream is not run."""
        require_stream(stream)
        # An error leaves the memo as it was, because only copies are run with.
        drafts = dict(self._drafts)
        noting = NotingCrew()
        plan = self._plan_of(stream, drafts, noting)
        numbered = dict(self._numbered)
        result = result_of_run(plan, LeadingCrew(self._outside_hook, noting.additions), numbered)
        self._drafts = drafts
        self._numbered = numbered
        return result

    @property
    def memo_size(self):
        """The number of given numbers."""
        return len(self._numbered)

    def clear_memo(self):
        """Forget all numbers."""
        self._drafts = {}
        self._numbered = {}

    def _plan_of(self, stream, drafts, noting):
        """Return the plan of the dry run; no draft of an earlier stream is changed, whether it is refused or not."""
        dry = DryRun(stream, self._registry, self._outside_hook is not None, drafts, noting)
        try:
            dry.finish()
        except Refused:
            noting.take_back()
            raise
        noting.take_back()
        return dry.plan
