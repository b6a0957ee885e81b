"""What can come of a program whose neighbouring lines may change places."""

from lostlines.checks import check_machine, check_program, check_swaps, check_wishes, is_swaps
from lostlines.harms import by_texts, fewest_harmful
from lostlines.runs import behind_line, behind_losses, keep_fewer, within_most_pairs
from lostlines.terms import Store
from lostlines.wanted import are_fulfilled, wanted_numbers


def swapped(program, swaps):
    """The lines of a program in the order that swaps make."""
    lines = list(program)
    for number in swaps:
        lines[number], lines[number + 1] = lines[number + 1], lines[number]
    return lines


def run_swapped(machine, program, swaps):
    """The terms that the cells hold behind a program some lines of which change places with the next ones."""
    check_machine(machine)
    check_program(machine, program)
    check_swaps(program, swaps)
    store = Store(machine[0])
    return store.terms(behind_losses(store, swapped(program, swaps), ()))


def swapped_rows(store, program):
    """What the cells can hold behind a program, each with as few swaps as can be that lead to it."""
    before = {}
    rows = {store.at_first: ()}
    for number, line in enumerate(program):
        found = {}
        for holds, swaps in rows.items():
            keep_fewer(found, behind_line(store, holds, line), swaps)
        for holds, swaps in before.items():
            held = behind_line(store, behind_line(store, holds, line), program[number - 1])
            keep_fewer(found, held, swaps + (number - 1,))
        before = rows
        rows = within_most_pairs(found)
    return rows


def outcomes_swapped(machine, program):
    """The unlike tuples of what the cells can hold behind a program, ascending by their texts."""
    check_machine(machine)
    check_program(machine, program)
    store = Store(machine[0])
    return by_texts(store, list(swapped_rows(store, program)))


def is_swap_proof(machine, program, wishes):
    """Whether all wishes are fulfilled behind a program whatever lines of it change places."""
    return swap_harm(machine, program, wishes) is None


def swap_harm(machine, program, wishes):
    """As few swaps as can be that leave some wish unfulfilled, None without any."""
    check_machine(machine)
    check_program(machine, program)
    check_wishes(machine, wishes)
    store = Store(machine[0])
    rows = swapped_rows(store, program)
    return fewest_harmful(list(rows.items()), wanted_numbers(store, wishes))


def shows_swap_harm(machine, program, wishes, value):
    """Whether a value is what swap_harm may return."""
    fewest = swap_harm(machine, program, wishes)
    if fewest is None:
        return value is None
    if not is_swaps(program, value) or len(value) != len(fewest):
        return False
    store = Store(machine[0])
    holds = behind_losses(store, swapped(program, value), ())
    return not are_fulfilled(holds, wanted_numbers(store, wishes))
