"""What can come of a program under a rule of loss, and what is needed to leave some wish unfulfilled."""

from lostlines.checks import is_losses
from lostlines.runs import behind_losses, pairs_at_end, rows_of
from lostlines.terms import Store
from lostlines.wanted import are_fulfilled, wanted_numbers


def by_texts(store, rows):
    """The tuples of the terms with these numbers, unlike ones, ascending by their texts."""
    found = {store.texts(row): store.terms(row) for row in rows}
    return tuple([found[texts] for texts in sorted(found)])


def outcomes_under(machine, program, rule):
    """The unlike tuples of what the cells can hold behind a program, ascending by their texts."""
    store = Store(machine[0])
    return by_texts(store, rows_of(pairs_at_end(store, program, rule)))


def sure_of(store, rows, cell):
    """The term that a cell holds in all rows of numbers, None if there are several."""
    held = [row[cell] for row in rows]
    if any([number != held[0] for number in held]):
        return None
    return store.terms(held[:1])[0]


def sure_of_all(store, rows):
    """For each cell the term that it holds in all rows of numbers, or None."""
    return tuple([sure_of(store, rows, cell) for cell in range(len(rows[0]))])


def fewest_harmful(ways, wanted):
    """Of pairs of what the cells hold and the numbers that lead to it, the fewest numbers that do harm, or None."""
    fewest = None
    for holds, numbers in ways:
        if not are_fulfilled(holds, wanted) and (fewest is None or len(numbers) < len(fewest)):
            fewest = numbers
    return fewest


def fewest_losses(machine, program, rule, wishes):
    """Losses of as few lines as can be that leave some wish unfulfilled, or None."""
    store = Store(machine[0])
    pairs = pairs_at_end(store, program, rule)
    ways = [(holds, losses) for (holds, _), losses in pairs.items()]
    return fewest_harmful(ways, wanted_numbers(store, wishes))


def are_fewest_losses(machine, program, rule, wishes, value):
    """Whether a value is losses of as few lines as can be that leave some wish unfulfilled, None without any."""
    fewest = fewest_losses(machine, program, rule, wishes)
    if fewest is None:
        return value is None
    if not is_losses(program, rule, value) or len(value) != len(fewest):
        return False
    store = Store(machine[0])
    return not are_fulfilled(behind_losses(store, program, value), wanted_numbers(store, wishes))


def all_losses(lines, many):
    """All losses of so many lines."""
    rows = [((), 0)]
    for number in range(lines):
        lost = [(losses + (number,), last + 1) for losses, last in rows if last < many]
        rows = [(losses, 0) for losses, _ in rows] + lost
    return [losses for losses, _ in rows]


def least_harms(store, program, many, wishes):
    """The losses that do harm, but none of whose parts with fewer lines does."""
    wanted = wanted_numbers(store, wishes)
    found = []
    for losses in sorted(all_losses(len(program), many), key=len):
        has_part = any([all([number in losses for number in part]) for part in found])
        if not has_part and not are_fulfilled(behind_losses(store, program, losses), wanted):
            found.append(losses)
    return found
