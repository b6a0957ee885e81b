"""Relays: stages each of which takes what cells of the one ahead hold."""

from lostlines.checks import check_machine, check_many, check_relay
from lostlines.harms import by_texts, sure_of_all
from lostlines.limits import neighbouring
from lostlines.runs import pairs_from, rows_of
from lostlines.terms import Store


def check_lossy_relay(machine, stages, many):
    """Check the arguments of all functions of this file."""
    check_machine(machine)
    check_relay(machine, stages)
    check_many(many)


def rows_at_end(store, stages, many):
    """What the cells of the last stage can hold at its end."""
    rows = [store.at_first]
    for program, takes in stages:
        taken = [tuple([holds[cell] for cell in takes]) for holds in rows]
        rows = rows_of(pairs_from(store, taken, program, neighbouring(many)))
    return rows


def relay_outcomes(machine, stages, many):
    """The unlike tuples of what the cells of the last stage can hold at its end, ascending by their texts."""
    check_lossy_relay(machine, stages, many)
    store = Store(machine[0])
    return by_texts(store, rows_at_end(store, stages, many))


def relay_sure(machine, stages, many):
    """For each cell of the last stage the term that it is sure of at its end, or None."""
    check_lossy_relay(machine, stages, many)
    store = Store(machine[0])
    return sure_of_all(store, rows_at_end(store, stages, many))
