"""How few lines a program that is proof has."""

from lostlines.checks import are_lines, check_machine, check_many
from lostlines.errors import TooMany
from lostlines.harms import fewest_losses
from lostlines.limits import neighbouring
from lostlines.searches import least_gentle_lines


def least_proof_lines(machine, many, wishes):
    """How few lines a program has that is proof, None without any."""
    check_machine(machine)
    check_many(many)
    least = least_gentle_lines(machine, wishes)
    return None if least is None else (many + 1) * least


def is_shown_proof(machine, program, many, wishes):
    """Whether a program is proof, and no more comes of it than is followed."""
    try:
        return fewest_losses(machine, program, neighbouring(many), wishes) is None
    except TooMany:
        return False


def shows_least_proof(machine, many, wishes, value):
    """Whether a value is a proof program of as few lines as can be, None without any."""
    least = least_proof_lines(machine, many, wishes)
    if least is None:
        return value is None
    return are_lines(machine, value) and len(value) == least and is_shown_proof(machine, value, many, wishes)
