"""What arguments must be: each check raises the error that the document names."""

from lostlines.errors import BadChance, BadLosses, BadMachine, BadNumber, BadProgram, BadTerm, BadWishes
from lostlines.terms import DEEPEST

MOST_CELLS = 4
MOST_FUNCTIONS = 3
MOST_READ = 2
MOST_LINES = 60
MOST_NEIGHBOURS = 3
MOST_BOTTOM = 1000


def is_between(value, low, high):
    """Whether a value is an integer from low to high; True and False are none."""
    return isinstance(value, int) and not isinstance(value, bool) and low <= value <= high


def is_number_below(value, limit):
    """Whether a value is the number of one of so many things."""
    return is_between(value, 0, limit - 1)


def are_functions(value):
    """Whether a value can be a machine's functions."""
    if not isinstance(value, tuple) or not 1 <= len(value) <= MOST_FUNCTIONS:
        return False
    return all([is_between(reads, 1, MOST_READ) for reads in value])


def check_machine(machine, most_cells=MOST_CELLS):
    """Raise BadMachine for a value that is no machine, or one of more cells than that."""
    if not isinstance(machine, tuple) or len(machine) != 2:
        raise BadMachine("machine")
    cells, functions = machine
    if not is_between(cells, 1, most_cells):
        raise BadMachine("cells")
    if not are_functions(functions):
        raise BadMachine("functions")


def are_sources(machine, function, cell, value):
    """Whether a value can be the sources of a line that sets a cell by a function, or None."""
    cells, functions = machine
    if not isinstance(value, tuple) or not all([is_number_below(source, cells) for source in value]):
        return False
    if function is None:
        return len(value) == 1 and value[0] != cell
    return is_number_below(function, len(functions)) and len(value) == functions[function]


def is_line(machine, value):
    """Whether a value is a line for a machine."""
    if not isinstance(value, tuple) or len(value) != 3:
        return False
    cell, function, sources = value
    return is_number_below(cell, machine[0]) and are_sources(machine, function, cell, sources)


def are_lines(machine, value):
    """Whether a value is a tuple of lines for a machine, however many."""
    return isinstance(value, tuple) and all([is_line(machine, line) for line in value])


def is_gentle_line(line):
    """Whether a line does not read the cell that it sets."""
    cell, _, sources = line
    return cell not in sources


def check_program(machine, program):
    """Raise BadProgram for a value that is no program for a machine."""
    if not isinstance(program, tuple) or len(program) > MOST_LINES:
        raise BadProgram(None)
    for index, line in enumerate(program):
        if not is_line(machine, line):
            raise BadProgram(index)


def is_term(machine, value, depth):
    """Whether a value is a term of a machine that is at most so deep."""
    cells, functions = machine
    if depth == 0:
        return False
    if not isinstance(value, tuple):
        return is_number_below(value, cells)
    if len(value) == 0 or not is_number_below(value[0], len(functions)):
        return False
    parts = value[1:]
    if len(parts) != functions[value[0]]:
        return False
    return all([is_term(machine, part, depth - 1) for part in parts])


def check_term(machine, term):
    """Raise BadTerm for a value that is no term of a machine."""
    if not is_term(machine, term, DEEPEST):
        raise BadTerm("no term of the machine")


def check_many(many):
    """Raise BadNumber for a value that is no number of neighbours."""
    if not is_between(many, 1, MOST_NEIGHBOURS):
        raise BadNumber("no integer from 1 to 3")


def check_chance(chance):
    """Raise BadChance for a value that is no chance."""
    if not isinstance(chance, tuple) or len(chance) != 2:
        raise BadChance("no pair")
    top, bottom = chance
    if not is_between(bottom, 1, MOST_BOTTOM) or not is_between(top, 0, bottom):
        raise BadChance("no integers that make a chance")


def is_losses(program, many, value):
    """Whether a value is losses of a program that lets so many neighbouring lines be lost."""
    if not isinstance(value, tuple):
        return False
    if not all([is_number_below(number, len(program)) for number in value]):
        return False
    if not all([value[at] < value[at + 1] for at in range(len(value) - 1)]):
        return False
    # Of ascending numbers, many + 1 are neighbours just if the last is many above the first.
    return all([value[at + many] - value[at] > many for at in range(len(value) - many)])


def check_losses(program, many, losses):
    """Raise BadLosses for a value that is no losses of a program."""
    if not is_losses(program, many, losses):
        raise BadLosses("no losses of the program")


def is_wish(machine, value):
    """Whether a value is a pair of a cell and a term."""
    if not isinstance(value, tuple) or len(value) != 2:
        return False
    cell, term = value
    return is_number_below(cell, machine[0]) and is_term(machine, term, DEEPEST)


def check_wishes(machine, wishes):
    """Raise BadWishes for a value that is no wishes for a machine."""
    if not isinstance(wishes, tuple) or len(wishes) == 0:
        raise BadWishes(None)
    above = -1
    for index, wish in enumerate(wishes):
        if not is_wish(machine, wish) or wish[0] <= above:
            raise BadWishes(index)
        above = wish[0]
