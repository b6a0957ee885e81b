"""How many losses a program has, and how many of them do harm."""

from lostlines.checks import check_line_count, check_lossy, check_many, check_wishes
from lostlines.errors import TooMany
from lostlines.harms import least_harms
from lostlines.limits import neighbouring
from lostlines.runs import behind_line, pairs_at_end, within_most_pairs
from lostlines.terms import Store
from lostlines.wanted import are_fulfilled, wanted_numbers

MOST_LOST_FROM = 12


def count_losses(lines, many):
    """How many losses a program of so many lines has, none at all among them."""
    check_line_count(lines)
    check_many(many)
    # How many losses there are by how many lines were lost last.
    counts = [1] + [0 for _ in range(many)]
    for _ in range(lines):
        counts = [sum(counts)] + counts[:-1]
    return sum(counts)


def add_counts(found, pair, counts):
    """Add to how many losses, of no line, one line and so on, lead to a pair."""
    if pair in found:
        counts = [count + more for count, more in zip(found[pair], counts)]
    found[pair] = counts


def counts_behind(store, counted, line, many):
    """How many losses, of no line, one line and so on, lead to each pair (what the cells hold, lines lost last)."""
    found = {}
    for (holds, lost), counts in counted.items():
        add_counts(found, (behind_line(store, holds, line), 0), counts + [0])
        if lost < many:
            add_counts(found, (holds, lost + 1), [0] + counts)
    return within_most_pairs(found)


def harm_counts(machine, program, many, wishes):
    """How many losses of no line, one line and so on up to all lines do harm."""
    check_lossy(machine, program, many)
    check_wishes(machine, wishes)
    store = Store(machine[0])
    counted = {(store.at_first, 0): [1]}
    for line in program:
        counted = counts_behind(store, counted, line, many)
    wanted = wanted_numbers(store, wishes)
    harmful = [counts for (holds, _), counts in counted.items() if not are_fulfilled(holds, wanted)]
    return tuple([sum([row[lost] for row in harmful]) for lost in range(len(program) + 1)])


def right_losses(machine, program, many, wishes):
    """How many losses of a program do no harm."""
    harmful = sum(harm_counts(machine, program, many, wishes))
    return count_losses(len(program), many) - harmful


def small_harms(machine, program, many, wishes):
    """The losses that do harm, but none of whose parts with fewer lines does."""
    check_lossy(machine, program, many)
    check_wishes(machine, wishes)
    if len(program) > MOST_LOST_FROM:
        raise TooMany(MOST_LOST_FROM)
    store = Store(machine[0])
    # A term that is too deep is to be told even if losses that lead to it have a part that does harm.
    pairs_at_end(store, program, neighbouring(many))
    return tuple(sorted(least_harms(store, program, many, wishes)))
