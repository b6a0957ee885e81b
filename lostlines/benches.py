"""A machine at work, line by line."""

from lostlines.checks import check_machine, is_line
from lostlines.errors import BadProgram, BadStep
from lostlines.runs import behind_line
from lostlines.terms import Store


class Bench:
    """A machine at work: its lines are done or lost one by one, and can be taken back."""

    def __init__(self, machine):
        check_machine(machine)
        self._machine = machine
        self._store = Store(machine[0])
        self._lines = []
        self._losses = []
        # For each moment what the cells hold, and what they would hold had nothing been lost.
        self._numbers = [(self._store.at_first, self._store.at_first)]
        self._terms = [(self._store.at_first, self._store.at_first)]

    def _check(self, line):
        if not is_line(self._machine, line):
            raise BadProgram(None)

    def _add(self, line, holds, due):
        self._lines.append(line)
        self._numbers.append((holds, due))
        self._terms.append((self._store.terms(holds), self._store.terms(due)))

    def do(self, line):
        """Do a line."""
        self._check(line)
        holds, due = self._numbers[-1]
        self._add(line, behind_line(self._store, holds, line), behind_line(self._store, due, line))

    def lose(self, line):
        """Lose a line."""
        self._check(line)
        holds, due = self._numbers[-1]
        self._add(line, holds, behind_line(self._store, due, line))
        self._losses.append(len(self._lines) - 1)

    def undo(self):
        """Take the last line back, done or lost."""
        if not self._lines:
            raise BadStep("no line to take back")
        self._lines.pop()
        self._numbers.pop()
        self._terms.pop()
        if self._losses and self._losses[-1] == len(self._lines):
            self._losses.pop()

    @property
    def holds(self):
        """The terms that the cells hold."""
        return self._terms[-1][0]

    @property
    def due(self):
        """The terms that the cells would hold had nothing been lost."""
        return self._terms[-1][1]

    @property
    def lines(self):
        """All lines so far, lost ones too."""
        return tuple(self._lines)

    @property
    def losses(self):
        """The numbers of the lost lines."""
        return tuple(self._losses)
