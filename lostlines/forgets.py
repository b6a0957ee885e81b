"""Cells that may forget what they hold."""

from lostlines.checks import check_cells, check_machine, check_program, check_wishes
from lostlines.errors import NoProgram
from lostlines.paths import fewest_lines
from lostlines.runs import behind_losses
from lostlines.surely import sure_behind_forgetting
from lostlines.terms import Store
from lostlines.wanted import are_fulfilled, check_parts, wanted_numbers


def bears_forgetting(machine, program, forgets, wishes):
    """Whether all wishes are fulfilled behind a program whatever these cells forget."""
    check_machine(machine)
    check_program(machine, program)
    check_cells(machine, forgets)
    check_wishes(machine, wishes)
    store = Store(machine[0])
    # Each cell always holds nothing or what it holds in the run in which nothing is forgotten, so no other run
    # makes a deeper term, and there are never more than 16 tuples of what the cells can hold.
    behind_losses(store, program, ())
    return are_fulfilled(sure_behind_forgetting(store, program, forgets), wanted_numbers(store, wishes))


def without(machine, forgets, wishes):
    """A program that fulfils wishes and neither sets nor reads these cells, None without any."""
    check_machine(machine)
    check_cells(machine, forgets)
    check_wishes(machine, wishes)
    check_parts(machine, wishes)
    return fewest_lines(machine[0], wishes, False, forgets)


def can_bear(machine, forgets, wishes):
    """Whether some program fulfils wishes whatever these cells forget."""
    return without(machine, forgets, wishes) is not None


def bearing(machine, forgets, wishes):
    """A program that fulfils wishes whatever these cells forget."""
    program = without(machine, forgets, wishes)
    if program is None:
        raise NoProgram("no program without these cells fulfils the wishes")
    return program
