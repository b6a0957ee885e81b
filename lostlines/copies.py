"""How often the lines of a program must stand, and with what chance it does what is wished for."""

from math import gcd

from lostlines.checks import (
    check_chance, check_lossy, check_machine, check_program, check_wishes, is_gentle_line,
)
from lostlines.errors import BadProgram
from lostlines.harms import least_harms
from lostlines.limits import neighbouring
from lostlines.runs import behind_line, behind_losses, pairs_at_end, within_most_pairs
from lostlines.terms import DEEPEST, Store
from lostlines.wanted import are_fulfilled, wanted_numbers

MOST_SPARED = 10


def is_sparing(machine, program, wishes):
    """Whether a program is short, gentle and fulfils wishes if nothing is lost."""
    if len(program) > MOST_SPARED or not all([is_gentle_line(line) for line in program]):
        return False
    # A program that fulfils nothing is wrong even if it makes too deep a term.
    store = Store(machine[0], DEEPEST + MOST_SPARED)
    return are_fulfilled(behind_losses(store, program, ()), wanted_numbers(store, wishes))


def stretches_of(losses):
    """The numbers of lines that were lost, those of neighbouring lines together."""
    found = []
    for number in losses:
        if found and found[-1][-1] == number - 1:
            found[-1] += (number,)
        else:
            found.append((number,))
    return found


def is_averted(stretches, row, many):
    """Whether these lines, each standing as often as a row tells, can't all be lost.

    A gentle line that happens once more does nothing new, so it is lost just
    if it is lost as often as it stands.
    """
    return any([sum([row[number] for number in stretch]) > many for stretch in stretches])


def averting_rows(harms, lines, many, total):
    """The ascending list of all tuples, for each line, of how often it stands, that avert all harms."""
    rows = [()]
    for number in range(lines):
        behind = lines - 1 - number
        ended = [stretches for stretches in harms if stretches[-1][-1] == number]
        longer = [row + (often,) for row in rows for often in range(1, many + 2)]
        within = [row for row in longer if behind <= total - sum(row) <= behind * (many + 1)]
        rows = [row for row in within if all([is_averted(stretches, row, many) for stretches in ended])]
    return rows


def spared(machine, program, many, wishes):
    """How often each line must stand, as few in all as can be, for a gentle program to be proof."""
    check_lossy(machine, program, many)
    check_wishes(machine, wishes)
    if not is_sparing(machine, program, wishes):
        raise BadProgram(None)
    store = Store(machine[0])
    # However often the lines stand, no run comes that does not come with each line standing once.
    pairs_at_end(store, program, neighbouring(many))
    harms = [stretches_of(losses) for losses in least_harms(store, program, many, wishes)]
    total = len(program)
    rows = averting_rows(harms, len(program), many, total)
    while not rows:
        total += 1
        rows = averting_rows(harms, len(program), many, total)
    return tuple(rows)


def add_weight(weights, holds, weight):
    """Add to the weight of what the cells hold, unless there is nothing to add."""
    if weight > 0:
        weights[holds] = weights.get(holds, 0) + weight


def weights_behind(store, weights, line, top, bottom):
    """The weights, behind a line, of what the cells can hold: in all bottom times those ahead of it."""
    found = {}
    for holds, weight in weights.items():
        add_weight(found, behind_line(store, holds, line), weight * (bottom - top))
        add_weight(found, holds, weight * top)
    return within_most_pairs(found)


def right_chance(machine, program, chance, wishes):
    """The chance that wishes are fulfilled if each line is lost with a chance, by itself."""
    check_machine(machine)
    check_program(machine, program)
    check_chance(chance)
    check_wishes(machine, wishes)
    top, bottom = chance
    store = Store(machine[0])
    weights = {store.at_first: 1}
    for line in program:
        weights = weights_behind(store, weights, line, top, bottom)
    wanted = wanted_numbers(store, wishes)
    right = sum([weights[holds] for holds in weights if are_fulfilled(holds, wanted)])
    whole = sum(list(weights.values()))
    shared = gcd(right, whole)
    return right // shared, whole // shared
