"""Loading a value from a stream."""

from brinejar.crews import HookCrew
from brinejar.dryrun import DryRun
from brinejar.machine import Machine
from brinejar.streams import require_stream


def load(stream, registry=None, *, outside=None):
    """Return the result of the run of a stream; a wrong stream is not run."""
    require_stream(stream)
    dry = DryRun(stream, registry, outside is not None, {})
    dry.finish()
    return result_of_run(dry.plan, HookCrew(outside), {})


def result_of_run(plan, crew, memo):
    """Return the result of the run that the dry run has planned."""
    machine = Machine(crew, memo)
    for name, content in plan:
        machine.perform(name, content)
    return machine.stack.peek(0)
