"""Programs, terms, wishes and runs as text."""

from lostlines.checks import (
    MOST_CELLS, MOST_FUNCTIONS, MOST_LINES, MOST_READ, check_losses, check_lossy, check_machine, check_program,
    check_wishes,
)
from lostlines.errors import BadText
from lostlines.limits import neighbouring
from lostlines.runs import behind_line
from lostlines.terms import DEEPEST, Store, text_of

# How many lines a program's text has ahead of those of the program.
HEAD = 2


def line_text(line):
    """The text of a line."""
    cell, function, sources = line
    read = ",".join([f"c{source}" for source in sources])
    made = read if function is None else f"f{function}({read})"
    return f"c{cell} = {made}"


def cells_text(cells):
    """The text that tells how many cells a machine has."""
    return f"cells {cells}"


def functions_text(functions):
    """The text that tells how many cells each function reads."""
    return " ".join(["functions"] + [str(reads) for reads in functions])


def wish_head(cell):
    """What stands ahead of the term in the text of a wish."""
    return f"c{cell} holds "


def ended(rows):
    """A text of these lines, each ended by a newline."""
    return "".join([row + "\n" for row in rows])


def written(machine, program):
    """The text of a program."""
    check_machine(machine)
    check_program(machine, program)
    cells, functions = machine
    return ended([cells_text(cells), functions_text(functions)] + [line_text(line) for line in program])


def rows_of(text):
    """The lines of a text, each of which a newline must end."""
    if not isinstance(text, str) or text == "":
        raise BadText(0)
    rows = text.split("\n")
    if rows[-1] != "":
        raise BadText(len(rows) - 1)
    return rows[:-1]


def tuples_of(values, size):
    """All tuples of so many of these values."""
    rows = [()]
    for _ in range(size):
        rows = [row + (value,) for row in rows for value in values]
    return rows


def all_lines(machine):
    """All lines of a machine."""
    cells, functions = machine
    lines = [(cell, None, (source,)) for cell in range(cells) for source in range(cells) if source != cell]
    for function, reads in enumerate(functions):
        for sources in tuples_of(list(range(cells)), reads):
            lines += [(cell, function, sources) for cell in range(cells)]
    return lines


def read_machine(rows):
    """The machine of the lines of a program's text."""
    cells = {cells_text(count): count for count in range(1, MOST_CELLS + 1)}
    if rows[0] not in cells:
        raise BadText(0)
    functions = {}
    for size in range(1, MOST_FUNCTIONS + 1):
        for reads in tuples_of(list(range(1, MOST_READ + 1)), size):
            functions[functions_text(reads)] = reads
    if len(rows) == 1 or rows[1] not in functions:
        raise BadText(1)
    return cells[rows[0]], functions[rows[1]]


def read_program(text):
    """The machine and the program of a program's text."""
    rows = rows_of(text)
    machine = read_machine(rows)
    lines = {line_text(line): line for line in all_lines(machine)}
    program = []
    for row in rows[HEAD:]:
        if row not in lines or len(program) == MOST_LINES:
            raise BadText(HEAD + len(program))
        program.append(lines[row])
    return machine, tuple(program)


def number_at(text, at, letter, limit):
    """The number below a limit that stands behind a letter at a place of a text, or None."""
    for number in range(limit):
        if text[at:at + 2] == f"{letter}{number}":
            return number
    return None


def term_at(machine, text, at, depth):
    """The term, at most so deep, that stands at a place of a text, and the place behind it; or None."""
    cells, functions = machine
    cell = number_at(text, at, "c", cells)
    function = number_at(text, at, "f", len(functions))
    if depth == 0 or (cell is None and function is None):
        return None
    if function is None:
        return cell, at + 2
    term = (function,)
    end = at + 2
    for sign in "(,"[:functions[function]]:
        found = term_at(machine, text, end + 1, depth - 1) if text[end:end + 1] == sign else None
        if found is None:
            return None
        term += (found[0],)
        end = found[1]
    return (term, end + 1) if text[end:end + 1] == ")" else None


def term_of(machine, text):
    """The term of a text, None for a text of none."""
    found = term_at(machine, text, 0, DEEPEST)
    if found is None or found[1] != len(text):
        return None
    return found[0]


def read_term(machine, text):
    """The term of a term's text."""
    check_machine(machine)
    term = term_of(machine, text) if isinstance(text, str) else None
    if term is None:
        raise BadText(0)
    return term


def wishes_text(machine, wishes):
    """The text of wishes."""
    check_machine(machine)
    check_wishes(machine, wishes)
    return ended([wish_head(cell) + text_of(term) for cell, term in wishes])


def wish_of(machine, text):
    """The wish of a text, None for a text of none."""
    for cell in range(machine[0]):
        head = wish_head(cell)
        if text.startswith(head):
            term = term_of(machine, text[len(head):])
            return None if term is None else (cell, term)
    return None


def read_wishes(machine, text):
    """The wishes of a text of wishes."""
    check_machine(machine)
    wishes = []
    for number, row in enumerate(rows_of(text)):
        wish = wish_of(machine, row)
        if wish is None or (wishes and wish[0] <= wishes[-1][0]):
            raise BadText(number)
        wishes.append(wish)
    return tuple(wishes)


def told(machine, program, many, losses):
    """A run with losses as text."""
    check_lossy(machine, program, many)
    check_losses(program, neighbouring(many), losses)
    store = Store(machine[0])
    holds = store.at_first
    rows = []
    for number, line in enumerate(program):
        lost = "lost " if number in losses else ""
        if number not in losses:
            holds = behind_line(store, holds, line)
        held = " ".join(store.texts(holds))
        rows.append(f"{number} {lost}{line_text(line)} : {held}")
    return ended(rows)
