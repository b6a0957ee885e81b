"""Machines, their programs and the terms that cells hold."""

from lostlines.checks import check_machine, check_program, check_term, is_gentle_line
from lostlines.runs import behind_losses
from lostlines.terms import Store, text_of


def is_gentle(machine, program):
    """Whether no line of a program reads the cell that it sets."""
    check_machine(machine)
    check_program(machine, program)
    return all([is_gentle_line(line) for line in program])


def run(machine, program):
    """The terms that the cells hold behind a program no line of which is lost."""
    check_machine(machine)
    check_program(machine, program)
    store = Store(machine[0])
    return store.terms(behind_losses(store, program, ()))


def term_text(machine, term):
    """The text of a term."""
    check_machine(machine)
    check_term(machine, term)
    return text_of(term)
