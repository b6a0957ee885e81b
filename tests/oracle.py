"""The document's words, done the long way: every run of a program, one by one, on the terms themselves."""

from itertools import combinations, product


class Deep(Exception):
    """A term deeper than 8 came."""


def depth(term):
    return 1 if isinstance(term, int) else 1 + max(depth(part) for part in term[1:])


def text(term):
    if isinstance(term, int):
        return "c" + str(term)
    return "f" + str(term[0]) + "(" + ",".join(text(part) for part in term[1:]) + ")"


def done(holds, line):
    cell, function, sources = line
    read = tuple(holds[source] for source in sources)
    held = list(holds)
    held[cell] = read[0] if function is None else (function,) + read
    if depth(held[cell]) > 8:
        raise Deep()
    return tuple(held)


def ran(machine, lines):
    holds = tuple(range(machine[0]))
    for line in lines:
        holds = done(holds, line)
    return holds


def left(program, losses):
    return [line for number, line in enumerate(program) if number not in losses]


def is_allowed(losses, many):
    return not any(all(first + step in losses for step in range(many + 1)) for first in losses)


def all_losses(lines, many):
    """All losses of so many lines, those of few lines first."""
    return [
        losses
        for size in range(lines + 1)
        for losses in combinations(range(lines), size)
        if is_allowed(losses, many)
    ]


def held_at_end(machine, program, many):
    """What the cells hold behind each of the losses."""
    return {losses: ran(machine, left(program, losses)) for losses in all_losses(len(program), many)}


def outcomes(machine, program, many):
    return in_order(held_at_end(machine, program, many).values())


def sure_terms(machine, program, many):
    held_at_end(machine, program, many)
    found = []
    for moment in range(len(program) + 1):
        rows = list(held_at_end(machine, program[:moment], many).values())
        found.append(tuple(held[0] if len(set(held)) == 1 else None for held in zip(*rows)))
    return tuple(found)


def is_fulfilled(holds, wishes):
    return all(holds[cell] == term for cell, term in wishes)


def harms(machine, program, many, wishes):
    """All losses of as few lines as can be that do harm."""
    return fewest_harms(held_at_end(machine, program, many), wishes)


def fewest_harms(rows, wishes):
    """Of what the cells hold by the numbers that lead to it, as few as can be that do harm: all such."""
    harmful = [numbers for numbers, holds in rows.items() if not is_fulfilled(holds, wishes)]
    return [numbers for numbers in harmful if len(numbers) == len(harmful[0])]


def is_repeat_proof(machine, program, many, wishes):
    answers = []
    for times in product(range(1, many + 2), repeat=len(program)):
        lines = [line for line, often in zip(program, times) for _ in range(often)]
        answers.append(is_fulfilled(ran(machine, lines), wishes))
    return all(answers)


def all_lines(machine):
    """Every line of a machine."""
    cells, functions = machine
    copies = [(cell, None, (source,)) for cell in range(cells) for source in range(cells) if cell != source]
    return copies + [
        (cell, function, sources)
        for cell in range(cells)
        for function, reads in enumerate(functions)
        for sources in product(range(cells), repeat=reads)
    ]


def gentle_lines(machine):
    return [line for line in all_lines(machine) if line[0] not in line[2]]


def all_programs(lines, most_lines):
    """Every program of up to so many of these lines, the short ones first."""
    return [program for size in range(most_lines + 1) for program in product(lines, repeat=size)]


def lengths(machine, lines, deepest):
    """For all that the cells can hold by these lines, no term ever deeper than told, the least number of lines."""
    found = {tuple(range(machine[0])): 0}
    ahead = list(found)
    while ahead:
        behind = []
        for holds in ahead:
            for line in lines:
                held = done(holds, line)
                if depth(held[line[0]]) <= deepest and held not in found:
                    found[held] = found[holds] + 1
                    behind.append(held)
        ahead = behind
    return found


def least(found, wishes):
    """The least number of lines, of those that lengths tells, behind which wishes are fulfilled, or None."""
    return min((count for holds, count in found.items() if is_fulfilled(holds, wishes)), default=None)


def terms(machine, deepest):
    """All terms of a machine that are at most so deep."""
    found = list(range(machine[0]))
    for _ in range(deepest - 1):
        made = [(f, *read) for f, reads in enumerate(machine[1]) for read in product(found, repeat=reads)]
        found = list(range(machine[0])) + made
    return found


def subsets(lines):
    """All lots of lost lines, those of few lines first."""
    return [lost for size in range(lines + 1) for lost in combinations(range(lines), size)]


def lets(rule, lines, lost):
    """Whether a rule of loss lets these of so many lines be lost."""
    if rule[0] == "all":
        return len(lost) <= rule[1]
    if rule[0] == "kept":
        return not any(number in rule[1] for number in lost)
    return all(sum(1 for number in lost if first <= number < first + rule[1]) <= rule[2] for first in range(lines))


def held_by(machine, program, rule):
    """What the cells hold behind each of the losses that a rule lets be."""
    lots = [lost for lost in subsets(len(program)) if lets(rule, len(program), lost)]
    return {lost: ran(machine, left(program, lost)) for lost in lots}


def swapped(program, swaps):
    """A program each line of which with such a number stands behind the next one."""
    order = list(range(len(program)))
    for number in swaps:
        order[number], order[number + 1] = number + 1, number
    return [program[number] for number in order]


def held_swapped(machine, program):
    """What the cells hold behind each of the swaps, those of few lines first."""
    lots = [swaps for swaps in subsets(len(program) - 1)
            if all(number + 1 not in swaps for number in swaps)] if program else [()]
    return {swaps: ran(machine, swapped(program, swaps)) for swaps in lots}


def words(machine, talk, lost):
    """What is said in a talk whose lines with these numbers are lost."""
    holds = tuple(range(machine[0]))
    said = []
    for line in left(talk, lost):
        if line[0] == "say":
            said.append(holds[line[1]])
        else:
            holds = done(holds, line)
    return tuple(said)


def merged(said):
    return tuple(word for at, word in enumerate(said) if at == 0 or said[at - 1] != word)


def harmful(machine, program, many, wishes):
    """All losses that do harm."""
    return [losses for losses, holds in held_at_end(machine, program, many).items() if not is_fulfilled(holds, wishes)]


def is_proof(machine, program, many, wishes):
    return not harmful(machine, program, many, wishes)


def chosen(program, numbers):
    return tuple(program[number] for number in numbers)


def needless(machine, program, many, wishes):
    lots = [chosen(program, [at for at in range(len(program)) if at != out]) for out in range(len(program))]
    return tuple(out for out, lot in enumerate(lots) if is_proof(machine, lot, many, wishes))


def least_within(machine, program, many, wishes):
    lots = [numbers for numbers in subsets(len(program)) if is_proof(machine, chosen(program, numbers), many, wishes)]
    return tuple(sorted(numbers for numbers in lots if len(numbers) == len(lots[0])))


def small_harms(machine, program, many, wishes):
    found = harmful(machine, program, many, wishes)
    return tuple(sorted(one for one in found if not any(set(other) < set(one) for other in found)))


def forgot(holds, forgets):
    """What the cells can hold if any of some cells forget: None for nothing."""
    return {
        tuple(None if cell in lot else term for cell, term in enumerate(holds))
        for size in range(len(forgets) + 1) for lot in combinations(forgets, size)
    }


def forgetting(machine, program, forgets):
    """What the cells can hold at the end, over all ways of forgetting."""
    rows = forgot(range(machine[0]), forgets)
    for line in program:
        held = set()
        for holds in rows:
            if any(holds[source] is None for source in line[2]):
                held.add(holds[:line[0]] + (None,) + holds[line[0] + 1:])
            else:
                held.add(done(holds, line))
        rows = {after for holds in held for after in forgot(holds, forgets)}
    return rows


def relayed(machine, stages, many):
    """What the cells of the last stage hold, for all losses in each stage."""
    rows = []
    for lots in product(*[all_losses(len(program), many) for program, _ in stages]):
        holds = tuple(range(machine[0]))
        for (program, takes), losses in zip(stages, lots):
            holds = tuple(holds[cell] for cell in takes)
            for line in left(program, losses):
                holds = done(holds, line)
        rows.append(holds)
    return rows


def both(machine, program, many):
    """What the cells hold, for all losses and all numbers of times that the other lines happen."""
    rows = []
    for times in product(range(many + 2), repeat=len(program)):
        if is_allowed([number for number, often in enumerate(times) if often == 0], many):
            rows.append(ran(machine, [line for line, often in zip(program, times) for _ in range(often)]))
    return rows


def in_order(rows):
    """The unlike ones of some tuples of terms, ascending by their texts."""
    return tuple(sorted(set(rows), key=lambda row: [text(term) for term in row]))
