"""What lines of a program that is proof can be left out."""

from itertools import combinations

from lostlines.checks import MOST_LINES, check_lossy, check_wishes
from lostlines.errors import BadProgram, TooMany
from lostlines.limits import neighbouring
from lostlines.losses import is_proof
from lostlines.runs import pairs_at_end
from lostlines.surely import sure_behind_losses
from lostlines.terms import DEEPEST, Store
from lostlines.wanted import are_fulfilled, wanted_numbers

MOST_CHOSEN_FROM = 12


def check_proof(machine, program, many, wishes):
    """Check the arguments of the functions of this file, whose program is to be proof, and follow its runs."""
    check_lossy(machine, program, many)
    check_wishes(machine, wishes)
    # TooMany comes after all other errors, so this is to be told without following the runs.
    store = Store(machine[0], DEEPEST + MOST_LINES)
    if not are_fulfilled(sure_behind_losses(store, program, many), wanted_numbers(store, wishes)):
        raise BadProgram(None)
    pairs_at_end(Store(machine[0]), program, neighbouring(many))


def needless(machine, program, many, wishes):
    """The numbers of the lines each of which alone can be left out of a program that is proof."""
    check_proof(machine, program, many, wishes)
    found = []
    for number in range(len(program)):
        others = program[:number] + program[number + 1:]
        # More may come of the others than of the whole program, so their runs are to be followed, too.
        if is_proof(machine, others, many, wishes):
            found.append(number)
    return tuple(found)


def proof_lots(store, program, size, many, wanted):
    """The lots of so many numbers of lines that alone, in order, are a proof program."""
    found = []
    for lot in combinations(range(len(program)), size):
        lines = [program[number] for number in lot]
        if are_fulfilled(sure_behind_losses(store, lines, many), wanted):
            found.append(lot)
    return found


def least_within(machine, program, many, wishes):
    """The lots of numbers of lines, as few as can be, that alone, in order, are a proof program."""
    check_proof(machine, program, many, wishes)
    if len(program) > MOST_CHOSEN_FROM:
        raise TooMany(MOST_CHOSEN_FROM)
    store = Store(machine[0])
    wanted = wanted_numbers(store, wishes)
    size = 0
    found = proof_lots(store, program, size, many, wanted)
    while not found:
        size += 1
        found = proof_lots(store, program, size, many, wanted)
    return tuple(found)
