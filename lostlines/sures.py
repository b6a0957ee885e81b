"""Where cells get sure of terms, and how many neighbouring lines may be lost."""

from lostlines.checks import MOST_NEIGHBOURS, check_machine, check_program, check_wishes
from lostlines.harms import fewest_losses
from lostlines.limits import neighbouring
from lostlines.losses import sure_terms


def gets_sure(ahead, behind):
    """Whether some cell is sure of a term behind a line that it is not sure of ahead of it."""
    return any([term is not None and term != before for before, term in zip(ahead, behind)])


def getting_sure(machine, program, many):
    """The numbers of the lines at which some cell gets sure."""
    moments = sure_terms(machine, program, many)
    return tuple([number for number in range(len(program)) if gets_sure(moments[number], moments[number + 1])])


def core(machine, program, many):
    """The program of the lines at which some cell gets sure."""
    return tuple([program[number] for number in getting_sure(machine, program, many)])


def most_borne(machine, program, wishes):
    """How many neighbouring lines, 0 to 3, may be lost with all wishes fulfilled; None if not even none."""
    check_machine(machine)
    check_program(machine, program)
    check_wishes(machine, wishes)
    many = 0
    while many <= MOST_NEIGHBOURS and fewest_losses(machine, program, neighbouring(many), wishes) is None:
        many += 1
    return many - 1 if many > 0 else None
