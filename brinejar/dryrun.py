"""The dry run: everything that the run does, with drafts and without hooks."""

from brinejar.conditions import Conditions
from brinejar.crews import DraftCrew
from brinejar.drafts import shape_of
from brinejar.machine import Machine
from brinejar.parsing import Parser
from brinejar.registry import registry_or_empty


class DryRun:
    """Runs a stream dry, opcode by opcode, and notes what the run needs to know."""

    def __init__(self, stream, registry, has_outside, memo, crew=None):
        self.parser = Parser(stream)
        # Pairs of the name of an opcode and what it is to be run with.
        self.plan = []
        self._machine = Machine(DraftCrew() if crew is None else crew, memo)
        self._conditions = Conditions(self._machine, registry_or_empty(registry), has_outside)

    def step(self):
        """Run the next opcode dry."""
        parser = self.parser
        parser.advance()
        content = self._conditions.content_of(parser.offset, parser.name, parser.argument)
        self._machine.perform(parser.name, content)
        self.plan.append((parser.name, content))

    def finish(self):
        """Run all opcodes dry."""
        while not self.parser.is_done():
            self.step()
        self.parser.require_end()

    def result(self):
        """Return the draft of the result, when all opcodes have run."""
        return self._machine.stack.peek(0)

    def shapes(self):
        """Return the tuple of the shapes on the stack, the top one last."""
        first, *others = self._machine.stack.pieces()
        shapes = shapes_of(first)
        for piece in others:
            shapes.append("mark")
            shapes.extend(shapes_of(piece))
        return tuple(shapes)

    def given_numbers(self):
        """Return how many numbers are given."""
        return len(self._machine.memo)


def shapes_of(drafts):
    """Return the list of the shapes of drafts."""
    return [shape_of(draft) for draft in drafts]
