"""Loading a value from a stream."""

from brinejar.crews import HookCrew
from brinejar.dryrun import DryRun
from brinejar.machine import Machine
from brinejar.streams import require_stream


def load(stream, registry=None, *, outside=None):
    """Return the result of the run of a stream; a wrong stream is not run."""
    require_stream(stream)
    dry = DryRun(stream, registry, outside is not None, {})
    dry.finish()
    machine = Machine(HookCrew(outside), {})
    for name, content in dry.plan:
        machine.perform(name, content)
    return machine.stack.peek(0)
