"""Machines, programs and values that several tests use."""

import random

LONE = (1, (1,))
PAIR = (2, (1, 2))
FOUR = (4, (1, 2, 2))

ONCE = (1, 0, (0,))
OWN = (0, 0, (0,))

# What a caller may pass for any argument, none of it right for any but the last argument of shows_harm.
ODD_VALUES = (
    True, False, None, -1, 5, 61, "", "c0", "1", (), [], {}, [1], (None,), (True,), ((),), ("c0", "c1"),
    {0: 1}, ([],), ({},), (0, (0, (0,))), [(1, 0, (0,))], ((1, 0, [0]),), (2, [1]),
)

# Programs whose pairs (what the cells hold, how many lines were lost last) come up to the limit behind the
# last line and no earlier: machine, many, program.
AT_LIMIT = (
    ((4, (2, 2)), 2, (
        (0, None, (3,)), (2, 1, (3, 0)), (0, 1, (0, 1)), (2, 0, (3, 2)), (1, None, (2,)), (1, None, (0,)),
        (3, 1, (3, 1)), (3, 0, (1, 2)), (3, 1, (3, 0)), (3, 0, (1, 1)), (1, None, (2,)), (3, 1, (3, 0)),
        (3, None, (1,)), (2, None, (3,)), (3, 0, (3, 2)), (1, 1, (3, 3)), (2, None, (1,)), (2, 0, (3, 0)))),
    ((4, (2,)), 3, (
        (0, None, (2,)), (1, 0, (0, 3)), (0, 0, (3, 0)), (1, 0, (3, 3)), (0, None, (3,)), (1, 0, (1, 0)),
        (1, None, (2,)), (1, None, (2,)), (1, 0, (0, 3)), (1, None, (3,)), (1, None, (0,)), (1, None, (0,)),
        (3, 0, (2, 0)), (2, 0, (2, 0)), (1, 0, (1, 3)), (1, 0, (2, 2)), (3, 0, (0, 0)), (2, 0, (2, 0)),
        (0, 0, (2, 0)), (2, 0, (3, 0)), (3, 0, (1, 2)), (1, 0, (1, 0)), (3, 0, (2, 0)))),
)

# Programs behind whose last line one pair more than the limit comes, but fewer unlike tuples.
OVER_LIMIT = (
    ((4, (1, 2)), 3, (
        (2, 1, (1, 1)), (3, 1, (0, 2)), (0, None, (1,)), (3, None, (2,)), (2, 1, (0, 3)), (2, 0, (0,)),
        (1, 1, (2, 3)), (0, None, (3,)), (2, 1, (3, 1)), (2, None, (3,)), (2, 0, (1,)), (2, 1, (1, 3)),
        (3, None, (0,)), (3, None, (2,)), (1, 0, (0,)), (0, None, (3,)), (0, 1, (3, 0)))),
    ((4, (1, 1, 2)), 2, (
        (2, 1, (0,)), (1, 1, (2,)), (0, None, (3,)), (2, None, (1,)), (3, None, (1,)), (2, None, (0,)),
        (3, None, (0,)), (3, 0, (3,)), (0, None, (1,)), (0, 1, (2,)), (2, None, (0,)), (0, 1, (1,)),
        (0, 1, (1,)), (1, 0, (2,)), (1, 2, (2, 1)), (0, 2, (3, 0)), (2, 2, (0, 3)), (2, 1, (2,)))),
)

# Behind these all four cells hold what cell 3 held, with so few lines lost that the pairs become few again.
LEVELLING = tuple((cell, None, (3,)) for cell in (0, 1, 2) for _ in range(4))


def deep(depth, cell=0):
    """A term of the lone machine's function that is so deep, made of what a cell holds at first."""
    term = cell
    for _ in range(depth - 1):
        term = (0, term)
    return term


def wide(depth):
    """A term of the pair's second function, all branches of which are so deep."""
    term = 0
    for _ in range(depth - 1):
        term = (1, term, term)
    return term


# Wishes for the pair that have just 16 unlike parts, and 17.
SIXTEEN = ((0, deep(8)), (1, deep(8, 1)))
SEVENTEEN = ((0, deep(8)), (1, (1, deep(7, 1), (1, 0, 0))))


def some_line(chance, machine):
    """A line of a machine, one in three of them a copy where there are two cells."""
    cells, functions = machine
    cell = chance.randrange(cells)
    if cells > 1 and chance.randrange(3) == 0:
        return (cell, None, (chance.choice([other for other in range(cells) if other != cell]),))
    function = chance.randrange(len(functions))
    return (cell, function, tuple(chance.randrange(cells) for _ in range(functions[function])))


def some_program(chance, machine, lines):
    """A program of so many lines, in which some stand several times, one behind another."""
    program = []
    while len(program) < lines:
        program.extend([some_line(chance, machine)] * chance.choice((1, 1, 2, 3)))
    return tuple(program[:lines])


def some_machine(chance):
    """A machine with any numbers of cells and functions."""
    return (chance.randint(1, 4), tuple(chance.randint(1, 2) for _ in range(chance.randint(1, 3))))


def cases(seed, count, most_lines):
    """Triples (machine, program, many), always the same ones for the same seed."""
    chance = random.Random(seed)
    found = []
    for _ in range(count):
        machine = some_machine(chance)
        program = some_program(chance, machine, chance.randint(0, most_lines))
        found.append((machine, program, chance.randint(1, 3)))
    return found


def some_wishes(chance, machine, holds):
    """Wishes of some cells, or of all: mostly what the cells hold."""
    wishes = []
    for cell in range(machine[0]):
        if chance.randrange(3) > 0 or (cell == machine[0] - 1 and not wishes):
            wishes.append((cell, holds[cell] if chance.randrange(6) > 0 else 0))
    return tuple(wishes)


def sure_wishes(chance, sure):
    """Wishes of some of the cells that are sure of a term, for it; None if no cell is."""
    cells = [cell for cell, term in enumerate(sure) if term is not None]
    made = [cell for cell in cells if isinstance(sure[cell], tuple)] or cells
    if not cells:
        return None
    taken = {cell for cell in cells if chance.randrange(3) == 0} | {chance.choice(made)}
    return tuple((cell, sure[cell]) for cell in sorted(taken))


def some_proof(chance, machine, many, most_lines):
    """A program of up to so many lines, most of which stand many + 1 times, one behind another, many of them gentle."""
    program = []
    for _ in range(most_lines):
        line = some_line(chance, machine)
        if line[0] in line[2] and chance.randrange(3) > 0:
            continue
        program.extend([line] * (many + 1 if chance.randrange(4) > 0 else 1))
    start = chance.randrange(len(program) - most_lines + 1) if len(program) > most_lines else 0
    return tuple(program[start:start + most_lines])
