"""Programs over the numbers of a store."""

from farbits.errors import FarError, Stopped
from farbits.runs import Run
from farbits.statements import block_of
from farbits.trees import Assignment, Repeat, statements_within


class Program:
    """The lines of a program."""

    def __init__(self, text):
        self._block = block_of(text)
        self._lines = tuple(text.split("\n"))

    def __call__(self, store):
        run = Run(store.forms())
        try:
            run.do_block(self._block)
        except FarError as e:
            raise Stopped(run.line) from e
        store.hold(run.numbers)
        return run.done

    def __len__(self):
        return len(self._lines)

    def folded(self):
        """The list of the numbers of all lines with a folded repeat, ascending."""
        return [
            statement.line for statement in statements_within(self._block)
            if isinstance(statement, Repeat) and statement.is_folded
        ]

    def assigned(self):
        """The list of the names that the program assigns, ascending."""
        names = {}
        for statement in statements_within(self._block):
            if isinstance(statement, Assignment):
                names[statement.name] = True
        return sorted([str(name) for name in names])
