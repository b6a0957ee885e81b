"""What can come of a program under other rules of loss."""

from lostlines.checks import check_losses, check_machine, check_program, check_rule, check_wishes
from lostlines.harms import are_fewest_losses, fewest_losses, outcomes_under
from lostlines.runs import behind_line, behind_losses
from lostlines.terms import Store
from lostlines.wanted import are_fulfilled, wanted_numbers


def check_ruled(machine, program, rule):
    """Check the arguments that functions with a rule of loss begin with."""
    check_machine(machine)
    check_program(machine, program)
    check_rule(program, rule)


def run_by(machine, program, rule, losses):
    """The terms that the cells hold behind a program with losses that a rule lets be."""
    check_ruled(machine, program, rule)
    check_losses(program, rule, losses)
    store = Store(machine[0])
    return store.terms(behind_losses(store, program, losses))


def outcomes_by(machine, program, rule):
    """The unlike tuples of what the cells can hold behind a program, ascending by their texts."""
    check_ruled(machine, program, rule)
    return outcomes_under(machine, program, rule)


def is_proof_by(machine, program, rule, wishes):
    """Whether all wishes are fulfilled behind a program whatever a rule lets be lost of it."""
    return harm_by(machine, program, rule, wishes) is None


def harm_by(machine, program, rule, wishes):
    """Losses of as few lines as can be that leave some wish unfulfilled, None without any."""
    check_ruled(machine, program, rule)
    check_wishes(machine, wishes)
    return fewest_losses(machine, program, rule, wishes)


def shows_harm_by(machine, program, rule, wishes, value):
    """Whether a value is what harm_by may return."""
    check_ruled(machine, program, rule)
    check_wishes(machine, wishes)
    return are_fewest_losses(machine, program, rule, wishes, value)


def new_rows(known, rows):
    """Those rows, each once, that are not known yet; then they are."""
    found = []
    for row in rows:
        if row not in known:
            known[row] = True
            found.append(row)
    return found


def reached(store, program, known, lost):
    """What the cells can hold at each moment for the first time, in runs that lose one line more.

    Known is what they can hold there in other runs, lost what they hold just behind the loss.
    """
    found = [new_rows(known[0], lost[0])]
    for number, line in enumerate(program):
        done = [behind_line(store, holds, line) for holds in found[-1]]
        found.append(new_rows(known[number + 1], done + lost[number + 1]))
    return found


def most_lost(machine, program, wishes):
    """How many lines in all, any, can be lost with all wishes fulfilled; None if not even none."""
    check_machine(machine)
    check_program(machine, program)
    check_wishes(machine, wishes)
    store = Store(machine[0])
    wanted = wanted_numbers(store, wishes)
    # No limit is named for what may come here, so all that can't do what is wished for is kept together.
    store.close()
    known = [{} for _ in range(len(program) + 1)]
    lost = [[store.at_first]] + [[] for _ in program]
    for number in range(len(program) + 1):
        found = reached(store, program, known, lost)
        if not all([are_fulfilled(holds, wanted) for holds in found[-1]]):
            return number - 1 if number > 0 else None
        lost = [[]] + found[:-1]
    return len(program)


def needed_lines(machine, program, wishes):
    """The numbers of the lines each of which, lost alone, leaves some wish unfulfilled."""
    check_machine(machine)
    check_program(machine, program)
    check_wishes(machine, wishes)
    store = Store(machine[0])
    wanted = wanted_numbers(store, wishes)
    needed = []
    for number in range(len(program)):
        if not are_fulfilled(behind_losses(store, program, (number,)), wanted):
            needed.append(number)
    return tuple(needed)
