"""What cells hold in all runs of a program, told line by line without following the runs.

Nothing is known of the functions, so what a line makes is the same in all runs just if all that it reads is.
"""

from lostlines.runs import behind_line


def with_cell(holds, cell, number):
    """What the cells hold if this one holds what has this number instead."""
    return holds[:cell] + (number,) + holds[cell + 1:]


def surely_made(store, sure, line):
    """The number of the term that a line makes in all runs, by those that cells are sure of; None without any."""
    cell, _, sources = line
    if any([sure[source] is None for source in sources]):
        return None
    return behind_line(store, sure, line)[cell]


def sure_behind_losses(store, program, many):
    """For each cell the number of the term that it is sure of if lines may be lost, or None.

    A cell gets sure of a term just at the end of many + 1 neighbouring lines each of which makes it hold this
    term in all runs: fewer of them could all be lost.
    """
    sure = store.at_first
    before = None
    alike = 0
    for line in program:
        cell = line[0]
        made = (cell, surely_made(store, sure, line))
        alike = alike + 1 if made == before else 1
        before = made
        is_sure = made[1] == sure[cell] or alike > many
        sure = with_cell(sure, cell, made[1] if is_sure else None)
    return sure


def sure_behind_repeats(store, program):
    """For each cell the number of the term that it is sure of if lines may happen more than once, or None.

    A line that reads the cell it sets makes a deeper term each time that it happens.
    """
    sure = store.at_first
    for line in program:
        cell, _, sources = line
        sure = with_cell(sure, cell, None if cell in sources else surely_made(store, sure, line))
    return sure


def sure_behind_forgetting(store, program, forgets):
    """For each cell the number of the term that it holds whatever these cells forget, or None."""
    sure = tuple([None if own in forgets else own for own in store.at_first])
    for line in program:
        cell = line[0]
        sure = with_cell(sure, cell, None if cell in forgets else surely_made(store, sure, line))
    return sure
