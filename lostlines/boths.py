"""Programs whose lines may be lost or happen more than once, in one run."""

from lostlines.checks import check_lossy, check_wishes
from lostlines.runs import behind_line, rows_of, within_most_pairs
from lostlines.terms import Store
from lostlines.wanted import are_fulfilled, wanted_numbers


def pairs_behind_times(store, pairs, line, many):
    """The pairs (what the cells hold, lines lost last) behind a line that is lost, or happens once or more often."""
    found = {}
    for holds, lost in pairs:
        if lost < many:
            found[(holds, lost + 1)] = True
        held = holds
        for _ in range(many + 1):
            held = behind_line(store, held, line)
            found[(held, 0)] = True
    return within_most_pairs(found)


def is_both_proof(machine, program, many, wishes):
    """Whether all wishes are fulfilled if lines may be lost and others happen up to many times more."""
    check_lossy(machine, program, many)
    check_wishes(machine, wishes)
    store = Store(machine[0])
    pairs = {(store.at_first, 0): True}
    for line in program:
        pairs = pairs_behind_times(store, pairs, line, many)
    wanted = wanted_numbers(store, wishes)
    return all([are_fulfilled(holds, wanted) for holds in rows_of(pairs)])
