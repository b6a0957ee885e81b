"""What can come of a program whose lines may be lost, or happen more than once."""

from lostlines.checks import check_losses, check_lossy, check_wishes
from lostlines.harms import are_fewest_losses, fewest_losses, outcomes_under, sure_of_all
from lostlines.limits import neighbouring
from lostlines.runs import behind_losses, first_pairs, pairs_behind, repeated, rows_of
from lostlines.surely import sure_behind_repeats
from lostlines.terms import Store
from lostlines.wanted import are_fulfilled, check_parts, wanted_numbers


def run_lost(machine, program, many, losses):
    """The terms that the cells hold behind a program whose lines with these numbers are lost."""
    check_lossy(machine, program, many)
    check_losses(program, neighbouring(many), losses)
    store = Store(machine[0])
    return store.terms(behind_losses(store, program, losses))


def outcomes(machine, program, many):
    """The unlike tuples of what the cells can hold behind a program, ascending by their texts."""
    check_lossy(machine, program, many)
    return outcomes_under(machine, program, neighbouring(many))


def sure_terms(machine, program, many):
    """For each moment, for each cell, the term that it is sure of, or None."""
    check_lossy(machine, program, many)
    rule = neighbouring(many)
    store = Store(machine[0])
    pairs = first_pairs([store.at_first], rule)
    found = [sure_of_all(store, rows_of(pairs))]
    for number, line in enumerate(program):
        pairs = pairs_behind(store, pairs, number, line, rule)
        found.append(sure_of_all(store, rows_of(pairs)))
    return tuple(found)


def is_proof(machine, program, many, wishes):
    """Whether all wishes are fulfilled behind a program whatever is lost of it."""
    return harm(machine, program, many, wishes) is None


def harm(machine, program, many, wishes):
    """Losses of as few lines as can be that leave some wish unfulfilled, None without any."""
    check_lossy(machine, program, many)
    check_wishes(machine, wishes)
    return fewest_losses(machine, program, neighbouring(many), wishes)


def shows_harm(machine, program, many, wishes, value):
    """Whether a value is what harm may return."""
    check_lossy(machine, program, many)
    check_wishes(machine, wishes)
    return are_fewest_losses(machine, program, neighbouring(many), wishes, value)


def is_repeat_proof(machine, program, many, wishes):
    """Whether all wishes are fulfilled if each line may happen up to many times more than once."""
    check_lossy(machine, program, many)
    check_wishes(machine, wishes)
    store = Store(machine[0])
    # No run makes deeper terms than the one in which all lines happen as often as can be.
    behind_losses(store, repeated(program, many + 1), ())
    check_parts(machine, wishes)
    return are_fulfilled(sure_behind_repeats(store, program), wanted_numbers(store, wishes))
