"""What arguments must be: each check raises the error that the document names."""

from lostlines.errors import (
    BadCells, BadChance, BadLosses, BadMachine, BadNumber, BadProgram, BadRelay, BadRule, BadSwaps, BadTalk, BadTerm,
    BadWishes,
)
from lostlines.limits import lets
from lostlines.terms import DEEPEST

MOST_CELLS = 4
MOST_FUNCTIONS = 3
MOST_READ = 2
MOST_LINES = 60
MOST_NEIGHBOURS = 3
MOST_BOTTOM = 1000
MOST_WIDTH = 6
MOST_STAGES = 4


def is_between(value, low, high):
    """Whether a value is an integer from low to high; True and False are none."""
    return isinstance(value, int) and not isinstance(value, bool) and low <= value <= high


def is_number_below(value, limit):
    """Whether a value is the number of one of so many things."""
    return is_between(value, 0, limit - 1)


def are_functions(value):
    """Whether a value can be a machine's functions."""
    if not isinstance(value, tuple) or not 1 <= len(value) <= MOST_FUNCTIONS:
        return False
    return all([is_between(reads, 1, MOST_READ) for reads in value])


def check_machine(machine, most_cells=MOST_CELLS):
    """Raise BadMachine for a value that is no machine, or one of more cells than that."""
    if not isinstance(machine, tuple) or len(machine) != 2:
        raise BadMachine("machine")
    cells, functions = machine
    if not is_between(cells, 1, most_cells):
        raise BadMachine("cells")
    if not are_functions(functions):
        raise BadMachine("functions")


def are_sources(machine, function, cell, value):
    """Whether a value can be the sources of a line that sets a cell by a function, or None."""
    cells, functions = machine
    if not isinstance(value, tuple) or not all([is_number_below(source, cells) for source in value]):
        return False
    if function is None:
        return len(value) == 1 and value[0] != cell
    return is_number_below(function, len(functions)) and len(value) == functions[function]


def is_line(machine, value):
    """Whether a value is a line for a machine."""
    if not isinstance(value, tuple) or len(value) != 3:
        return False
    cell, function, sources = value
    return is_number_below(cell, machine[0]) and are_sources(machine, function, cell, sources)


def are_lines(machine, value):
    """Whether a value is a tuple of lines for a machine, however many."""
    return isinstance(value, tuple) and all([is_line(machine, line) for line in value])


def is_gentle_line(line):
    """Whether a line does not read the cell that it sets."""
    cell, _, sources = line
    return cell not in sources


def check_program(machine, program):
    """Raise BadProgram for a value that is no program for a machine."""
    if not isinstance(program, tuple) or len(program) > MOST_LINES:
        raise BadProgram(None)
    for index, line in enumerate(program):
        if not is_line(machine, line):
            raise BadProgram(index)


def is_term(machine, value, depth):
    """Whether a value is a term of a machine that is at most so deep."""
    cells, functions = machine
    if depth == 0:
        return False
    if not isinstance(value, tuple):
        return is_number_below(value, cells)
    if len(value) == 0 or not is_number_below(value[0], len(functions)):
        return False
    parts = value[1:]
    if len(parts) != functions[value[0]]:
        return False
    return all([is_term(machine, part, depth - 1) for part in parts])


def check_term(machine, term):
    """Raise BadTerm for a value that is no term of a machine."""
    if not is_term(machine, term, DEEPEST):
        raise BadTerm("no term of the machine")


def check_many(many):
    """Raise BadNumber for a value that is no number of neighbours."""
    if not is_between(many, 1, MOST_NEIGHBOURS):
        raise BadNumber("no integer from 1 to 3")


def check_lossy(machine, program, many):
    """Check the three arguments that functions of programs whose lines may be lost begin with."""
    check_machine(machine)
    check_program(machine, program)
    check_many(many)


def check_line_count(lines):
    """Raise BadNumber for a value that is no number of lines of a program."""
    if not is_between(lines, 0, MOST_LINES):
        raise BadNumber("no integer from 0 to 60")


def check_chance(chance):
    """Raise BadChance for a value that is no chance."""
    if not isinstance(chance, tuple) or len(chance) != 2:
        raise BadChance("no pair")
    top, bottom = chance
    if not is_between(bottom, 1, MOST_BOTTOM) or not is_between(top, 0, bottom):
        raise BadChance("no integers that make a chance")


def are_numbers(value, limit):
    """Whether a value is an ascending tuple of unlike numbers of so many things."""
    if not isinstance(value, tuple) or not all([is_number_below(number, limit) for number in value]):
        return False
    return all([value[at] < value[at + 1] for at in range(len(value) - 1)])


def is_losses(program, rule, value):
    """Whether a value is losses of a program that a rule of loss lets be."""
    return are_numbers(value, len(program)) and lets(rule, len(program), value)


def check_losses(program, rule, losses):
    """Raise BadLosses for a value that is no losses of a program under a rule of loss."""
    if not is_losses(program, rule, losses):
        raise BadLosses("no losses of the program")


def is_rule(program, value):
    """Whether a value is a rule of loss for a program."""
    if not isinstance(value, tuple) or len(value) < 2:
        return False
    if value[0] == "all":
        return len(value) == 2 and is_between(value[1], 0, MOST_LINES)
    if value[0] == "window":
        return len(value) == 3 and is_between(value[1], 1, MOST_WIDTH) and is_between(value[2], 0, value[1])
    return value[0] == "kept" and len(value) == 2 and are_numbers(value[1], len(program))


def check_rule(program, rule):
    """Raise BadRule for a value that is no rule of loss for a program."""
    if not is_rule(program, rule):
        raise BadRule("no rule for the program")


def is_swaps(program, value):
    """Whether a value is swaps of a program."""
    if not are_numbers(value, len(program) - 1):
        return False
    return all([value[at] + 1 < value[at + 1] for at in range(len(value) - 1)])


def check_swaps(program, swaps):
    """Raise BadSwaps for a value that is no swaps of a program."""
    if not is_swaps(program, swaps):
        raise BadSwaps("no swaps of the program")


def is_wish(machine, value):
    """Whether a value is a pair of a cell and a term."""
    if not isinstance(value, tuple) or len(value) != 2:
        return False
    cell, term = value
    return is_number_below(cell, machine[0]) and is_term(machine, term, DEEPEST)


def check_wishes(machine, wishes):
    """Raise BadWishes for a value that is no wishes for a machine."""
    if not isinstance(wishes, tuple) or len(wishes) == 0:
        raise BadWishes(None)
    above = -1
    for index, wish in enumerate(wishes):
        if not is_wish(machine, wish) or wish[0] <= above:
            raise BadWishes(index)
        above = wish[0]


def is_saying(machine, value):
    """Whether a value is a line of a talk that says what a cell holds."""
    return isinstance(value, tuple) and len(value) == 2 and value[0] == "say" and is_number_below(value[1], machine[0])


def check_talk(machine, talk):
    """Raise BadTalk for a value that is no talk for a machine."""
    if not isinstance(talk, tuple) or len(talk) > MOST_LINES:
        raise BadTalk(None)
    for index, line in enumerate(talk):
        if not is_line(machine, line) and not is_saying(machine, line):
            raise BadTalk(index)


def check_cells(machine, cells):
    """Raise BadCells for a value that is no ascending tuple of unlike cells of a machine."""
    if not are_numbers(cells, machine[0]):
        raise BadCells("no cells of the machine")


def are_takes(ahead, value):
    """Whether a value is a tuple of as many of so many cells as a machine may have, alike or not."""
    if not isinstance(value, tuple) or not 1 <= len(value) <= MOST_CELLS:
        return False
    return all([is_number_below(cell, ahead) for cell in value])


def is_stage(ahead, functions, value):
    """Whether a value is a stage, with these functions, behind a machine of so many cells."""
    if not isinstance(value, tuple) or len(value) != 2 or not are_takes(ahead, value[1]):
        return False
    program, takes = value
    return are_lines((len(takes), functions), program) and len(program) <= MOST_LINES


def check_relay(machine, stages):
    """Raise BadRelay for a value that is no relay of a machine."""
    if not isinstance(stages, tuple) or not 1 <= len(stages) <= MOST_STAGES:
        raise BadRelay(None)
    ahead, functions = machine
    for index, stage in enumerate(stages):
        if not is_stage(ahead, functions, stage):
            raise BadRelay(index)
        ahead = len(stage[1])
