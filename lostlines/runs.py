"""How programs run, on the numbers that a store gives to terms."""

from lostlines.checks import MOST_LINES
from lostlines.errors import TooMany
from lostlines.limits import counted_first, counted_if_done, counted_if_lost

MOST_PAIRS = 3000


def behind_line(store, holds, line):
    """What the cells hold behind a line that happens."""
    cell, function, sources = line
    parts = tuple([holds[source] for source in sources])
    if function is None:
        made = parts[0]
    else:
        made = store.made(function, parts)
    return holds[:cell] + (made,) + holds[cell + 1:]


def behind_losses(store, program, losses):
    """What the cells hold behind a program whose lines with these numbers are lost."""
    holds = store.at_first
    for number, line in enumerate(program):
        if number not in losses:
            holds = behind_line(store, holds, line)
    return holds


def repeated(lines, times):
    """Lines each of which stands so many times, one behind another."""
    return tuple([line for line in lines for _ in range(times)])


def within_most_lines(lines):
    """The lines themselves, if they are no more than a program may have as an argument."""
    if len(lines) > MOST_LINES:
        raise TooMany(MOST_LINES)
    return lines


def within_most_pairs(found):
    """What comes behind some line, each once, if it is no more than is followed."""
    if len(found) > MOST_PAIRS:
        raise TooMany(MOST_PAIRS)
    return found


def keep_fewer(found, key, numbers):
    """Keep the numbers that lead to something unless fewer ones are kept for it."""
    if key not in found or len(numbers) < len(found[key]):
        found[key] = numbers


def first_pairs(rows, rule):
    """The pairs ahead of all lines, where the cells can hold any of these rows, in the form of pairs_behind."""
    return {(holds, counted_first(rule)): () for holds in rows}


def rows_of(pairs):
    """What the cells hold in each of the pairs."""
    return [holds for holds, _ in pairs]


def pairs_behind(store, pairs, number, line, rule):
    """The pairs (what the cells hold, what counts of the losses) behind a line, under a rule of loss.

    Each pair has losses of as few lines as can be that lead to it.
    """
    found = {}
    for (holds, counted), losses in pairs.items():
        keep_fewer(found, (behind_line(store, holds, line), counted_if_done(rule, counted, number)), losses)
        behind = counted_if_lost(rule, counted, number)
        if behind is not None:
            keep_fewer(found, (holds, behind), losses + (number,))
    return within_most_pairs(found)


def pairs_from(store, rows, program, rule):
    """The pairs behind the last line of a program ahead of which the cells can hold any of these rows."""
    pairs = first_pairs(rows, rule)
    for number, line in enumerate(program):
        pairs = pairs_behind(store, pairs, number, line, rule)
    return pairs


def pairs_at_end(store, program, rule):
    """The pairs behind the last line of a program."""
    return pairs_from(store, [store.at_first], program, rule)
