"""The shortest programs that fulfil wishes, and programs that are proof."""

from lostlines.checks import (
    MOST_CELLS, are_lines, check_lossy, check_machine, check_many, check_program, check_wishes, is_gentle_line,
)
from lostlines.errors import NoProgram, TooMany
from lostlines.paths import fewest_lines
from lostlines.runs import behind_losses, repeated, within_most_lines
from lostlines.terms import Store
from lostlines.wanted import are_fulfilled, check_parts, recipes_of, wanted_numbers


def check_wished(machine, wishes):
    """Check the arguments of a search."""
    check_machine(machine)
    check_wishes(machine, wishes)
    check_parts(machine, wishes)


def length_of(program):
    """How many lines a program has, None for None."""
    return None if program is None else len(program)


def fulfils(machine, program, wishes):
    """Whether a program fulfils wishes and makes no term that is deeper than terms may be."""
    store = Store(machine[0])
    try:
        holds = behind_losses(store, program, ())
    except TooMany:
        return False
    return are_fulfilled(holds, wanted_numbers(store, wishes))


def is_as_short(machine, wishes, fewest, value):
    """Whether a value is a program that fulfils wishes by as many lines as this one, None for None."""
    if fewest is None:
        return value is None
    # A deeper term is no part of the wishes: the line that makes it could be left out.
    return are_lines(machine, value) and len(value) == len(fewest) and fulfils(machine, value, wishes)


def shortest(machine, wishes):
    """A program of as few lines as can be that fulfils wishes, None if no program does."""
    check_wished(machine, wishes)
    return fewest_lines(machine[0], wishes, False)


def shortest_gentle(machine, wishes):
    """A program of as few lines as can be, all of them gentle, that fulfils wishes, None without any."""
    check_wished(machine, wishes)
    return fewest_lines(machine[0], wishes, True)


def least_lines(machine, wishes):
    """How many lines the shortest programs that fulfil wishes have, None if no program does."""
    return length_of(shortest(machine, wishes))


def least_gentle_lines(machine, wishes):
    """How many lines the shortest gentle programs that fulfil wishes have, None if no such program does."""
    return length_of(shortest_gentle(machine, wishes))


def shows_shortest(machine, wishes, value):
    """Whether a value is what shortest may return."""
    return is_as_short(machine, wishes, shortest(machine, wishes), value)


def shows_shortest_gentle(machine, wishes, value):
    """Whether a value is what shortest_gentle may return."""
    if not is_as_short(machine, wishes, shortest_gentle(machine, wishes), value):
        return False
    return value is None or all([is_gentle_line(line) for line in value])


def can_be_proof(machine, wishes):
    """Whether some program that fulfils wishes is proof against losses."""
    return shortest_gentle(machine, wishes) is not None


def proofed(machine, program, many):
    """The program each line of which stands many + 1 times."""
    check_lossy(machine, program, many)
    return within_most_lines(repeated(program, many + 1))


def proof_program(machine, many, wishes):
    """A program that is proof against losses."""
    check_machine(machine)
    check_many(many)
    gentle = shortest_gentle(machine, wishes)
    if gentle is None:
        raise NoProgram("no program of gentle lines fulfils the wishes")
    return within_most_lines(repeated(gentle, many + 1))


def gentle_lines(line, spare):
    """What stands for a line: itself, or, if it is not gentle, two lines that use the spare cell."""
    cell, function, sources = line
    if is_gentle_line(line):
        return [line]
    return [(spare, function, sources), (cell, None, (spare,))]


def with_spare(machine, program):
    """The machine with one cell more, and a program of gentle lines for it that does the same."""
    check_machine(machine, MOST_CELLS - 1)
    check_program(machine, program)
    cells, functions = machine
    gentle = tuple([new for line in program for new in gentle_lines(line, cells)])
    return (cells + 1, functions), within_most_lines(gentle)


def named_cells(wishes, cells):
    """How many cells there must be for all that wishes name to be among them."""
    recipes = recipes_of(Store(cells), wishes)
    own = [part for part in recipes if recipes[part] is None]
    return 1 + max([cell for cell, _ in wishes] + own)


def fewest_cells(least, wishes, gentle):
    """With how many cells, from least on, some program fulfils wishes, None without any."""
    for cells in range(least, MOST_CELLS + 1):
        if fewest_lines(cells, wishes, gentle) is not None:
            return cells
    return None


def least_cells(machine, wishes):
    """With how many cells some program, and some program of gentle lines, fulfils wishes."""
    check_wished(machine, wishes)
    least = named_cells(wishes, machine[0])
    return fewest_cells(least, wishes, False), fewest_cells(least, wishes, True)
