"""What can come of a program under a rule of loss, and what is needed to leave some wish unfulfilled."""

from lostlines.checks import is_losses
from lostlines.runs import behind_losses, pairs_at_end
from lostlines.terms import Store
from lostlines.wanted import are_fulfilled, wanted_numbers


def by_texts(store, rows):
    """The tuples of the terms with these numbers, unlike ones, ascending by their texts."""
    found = {store.texts(row): store.terms(row) for row in rows}
    return tuple([found[texts] for texts in sorted(found)])


def outcomes_under(machine, program, rule):
    """The unlike tuples of what the cells can hold behind a program, ascending by their texts."""
    store = Store(machine[0])
    return by_texts(store, [holds for holds, _ in pairs_at_end(store, program, rule)])


def fewest_harmful(ways, wanted):
    """Of pairs of what the cells hold and the numbers that lead to it, the fewest numbers that do harm, or None."""
    fewest = None
    for holds, numbers in ways:
        if not are_fulfilled(holds, wanted) and (fewest is None or len(numbers) < len(fewest)):
            fewest = numbers
    return fewest


def fewest_losses(machine, program, rule, wishes):
    """Losses of as few lines as can be that leave some wish unfulfilled, or None."""
    store = Store(machine[0])
    pairs = pairs_at_end(store, program, rule)
    ways = [(holds, losses) for (holds, _), losses in pairs.items()]
    return fewest_harmful(ways, wanted_numbers(store, wishes))


def are_fewest_losses(machine, program, rule, wishes, value):
    """Whether a value is losses of as few lines as can be that leave some wish unfulfilled, None without any."""
    fewest = fewest_losses(machine, program, rule, wishes)
    if fewest is None:
        return value is None
    if not is_losses(program, rule, value) or len(value) != len(fewest):
        return False
    store = Store(machine[0])
    return not are_fulfilled(behind_losses(store, program, value), wanted_numbers(store, wishes))
