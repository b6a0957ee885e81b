"""The document's words, done the long way: every run of a program, one by one, on the terms themselves."""

from itertools import combinations, product


class Deep(Exception):
    """A term deeper than 8 came."""


def depth(term):
    return 1 if isinstance(term, int) else 1 + max(depth(part) for part in term[1:])


def text(term):
    if isinstance(term, int):
        return "c" + str(term)
    return "f" + str(term[0]) + "(" + ",".join(text(part) for part in term[1:]) + ")"


def done(holds, line):
    cell, function, sources = line
    read = tuple(holds[source] for source in sources)
    held = list(holds)
    held[cell] = read[0] if function is None else (function,) + read
    if depth(held[cell]) > 8:
        raise Deep()
    return tuple(held)


def ran(machine, lines):
    holds = tuple(range(machine[0]))
    for line in lines:
        holds = done(holds, line)
    return holds


def left(program, losses):
    return [line for number, line in enumerate(program) if number not in losses]


def is_allowed(losses, many):
    return not any(all(first + step in losses for step in range(many + 1)) for first in losses)


def all_losses(lines, many):
    """All losses of so many lines, those of few lines first."""
    return [
        losses
        for size in range(lines + 1)
        for losses in combinations(range(lines), size)
        if is_allowed(losses, many)
    ]


def held_at_end(machine, program, many):
    """What the cells hold behind each of the losses."""
    return {losses: ran(machine, left(program, losses)) for losses in all_losses(len(program), many)}


def outcomes(machine, program, many):
    rows = set(held_at_end(machine, program, many).values())
    return tuple(sorted(rows, key=lambda row: [text(term) for term in row]))


def sure_terms(machine, program, many):
    held_at_end(machine, program, many)
    found = []
    for moment in range(len(program) + 1):
        rows = list(held_at_end(machine, program[:moment], many).values())
        found.append(tuple(held[0] if len(set(held)) == 1 else None for held in zip(*rows)))
    return tuple(found)


def is_fulfilled(holds, wishes):
    return all(holds[cell] == term for cell, term in wishes)


def harms(machine, program, many, wishes):
    """All losses of as few lines as can be that do harm."""
    rows = held_at_end(machine, program, many)
    harmful = [losses for losses, holds in rows.items() if not is_fulfilled(holds, wishes)]
    return [losses for losses in harmful if len(losses) == len(harmful[0])]


def is_repeat_proof(machine, program, many, wishes):
    answers = []
    for times in product(range(1, many + 2), repeat=len(program)):
        lines = [line for line, often in zip(program, times) for _ in range(often)]
        answers.append(is_fulfilled(ran(machine, lines), wishes))
    return all(answers)
