"""How programs run, on the numbers that a store gives to terms."""

from lostlines.checks import MOST_LINES
from lostlines.errors import TooMany

MOST_PAIRS = 3000


def behind_line(store, holds, line):
    """What the cells hold behind a line that happens."""
    cell, function, sources = line
    parts = tuple([holds[source] for source in sources])
    if function is None:
        made = parts[0]
    else:
        made = store.made(function, parts)
    return holds[:cell] + (made,) + holds[cell + 1:]


def behind_losses(store, program, losses):
    """What the cells hold behind a program whose lines with these numbers are lost."""
    holds = store.at_first
    for number, line in enumerate(program):
        if number not in losses:
            holds = behind_line(store, holds, line)
    return holds


def repeated(lines, times):
    """Lines each of which stands so many times, one behind another."""
    return tuple([line for line in lines for _ in range(times)])


def within_most_lines(lines):
    """The lines themselves, if they are no more than a program may have as an argument."""
    if len(lines) > MOST_LINES:
        raise TooMany(MOST_LINES)
    return lines


def first_pairs(store):
    """The pairs ahead of all lines, in the form of pairs_behind."""
    return {(store.at_first, 0): ()}


def keep_shorter(found, pair, losses):
    """Keep losses for a pair unless shorter ones are kept for it."""
    if pair not in found or len(losses) < len(found[pair]):
        found[pair] = losses


def pairs_behind(store, pairs, number, line, many):
    """The pairs (what the cells hold, how many lines were lost last) behind a line.

    Each pair has losses of as few lines as can be that lead to it.
    """
    found = {}
    for (holds, lost), losses in pairs.items():
        keep_shorter(found, (behind_line(store, holds, line), 0), losses)
        if lost < many:
            keep_shorter(found, (holds, lost + 1), losses + (number,))
    if len(found) > MOST_PAIRS:
        raise TooMany(MOST_PAIRS)
    return found


def pairs_at_end(store, program, many):
    """The pairs behind the last line of a program."""
    pairs = first_pairs(store)
    for number, line in enumerate(program):
        pairs = pairs_behind(store, pairs, number, line, many)
    return pairs
