"""The search for a program of as few lines as can be that fulfils wishes."""

from lostlines.terms import Store
from lostlines.wanted import are_fulfilled, recipes_of, wanted_numbers

# Stands for all that is no part of the wishes: no line can make a part of it.
OTHER = -1


def first_parts(cells, recipes, barred):
    """The parts that the cells hold at first, those of barred cells left out."""
    return tuple([cell if cell in recipes and cell not in barred else OTHER for cell in range(cells)])


def places_of(holds, barred):
    """For each part that a cell beside the barred one holds, such a cell."""
    return {part: cell for cell, part in enumerate(holds) if cell != barred and part != OTHER}


def lines_for(makable, holds, cell, gentle):
    """Pairs of a line that makes a cell hold a part, and this part: one for each that it can get."""
    others = places_of(holds, cell)
    places = others if gentle else places_of(holds, None)
    found = [((cell, None, (others[part],)), part) for part in others]
    for part, function, reads in makable:
        if all([read in places for read in reads]):
            found.append(((cell, function, tuple([places[read] for read in reads])), part))
    return found


def steps_from(recipes, holds, gentle, barred):
    """Pairs of a line and what the cells hold behind it, for all lines that make a part in no barred cell."""
    makable = []
    for part, recipe in recipes.items():
        if recipe is not None and part not in holds and all([read in holds for read in recipe[1]]):
            makable.append((part, recipe[0], recipe[1]))
    found = []
    for cell in range(len(holds)):
        if cell in barred:
            continue
        for line, part in lines_for(makable, holds, cell, gentle):
            found.append((line, holds[:cell] + (part,) + holds[cell + 1:]))
    return found


def program_to(came, holds):
    """The lines that lead to what the cells hold."""
    lines = []
    while came[holds] is not None:
        holds, line = came[holds]
        lines.append(line)
    return tuple(reversed(lines))


def fewest_lines(cells, wishes, gentle, barred=()):
    """A program of as few lines as can be that fulfils wishes, of gentle lines if asked for; or None.

    A line that makes no part can be left out, so only lines that make one are tried. Barred cells, which hold
    no part at first, never hold one, so no line reads them.
    """
    store = Store(cells)
    recipes = recipes_of(store, wishes)
    wanted = wanted_numbers(store, wishes)
    first = first_parts(cells, recipes, barred)
    came = {first: None}
    ahead = [first]
    while ahead:
        behind = []
        for holds in ahead:
            if are_fulfilled(holds, wanted):
                return program_to(came, holds)
            for line, held in steps_from(recipes, holds, gentle, barred):
                if held not in came:
                    came[held] = (holds, line)
                    behind.append(held)
        ahead = behind
    return None
