"""Wishes by the numbers that a store gives to their terms, and their parts."""

from lostlines.errors import TooMany
from lostlines.terms import Store

MOST_PARTS = 16


def wanted_numbers(store, wishes):
    """The wishes with the numbers of their terms."""
    return [(cell, store.number(term)) for cell, term in wishes]


def are_fulfilled(holds, wanted):
    """Whether each wished cell holds its term, by their numbers."""
    return all([holds[cell] == number for cell, number in wanted])


def add_parts(store, recipes, term):
    """Add a term and all within it to recipes, in the form of recipes_of; return its number."""
    number = store.number(term)
    if number not in recipes:
        recipes[number] = None
        if isinstance(term, tuple):
            recipes[number] = (term[0], tuple([add_parts(store, recipes, part) for part in term[1:]]))
    return number


def recipes_of(store, wishes):
    """The unlike parts of wishes, by their numbers.

    To each belong the function that makes it and the numbers of what that
    reads; None to a part that a cell holds at first.
    """
    recipes = {}
    for _, term in wishes:
        add_parts(store, recipes, term)
    return recipes


def check_parts(machine, wishes):
    """Raise TooMany for wishes with more unlike parts than a search takes."""
    if len(recipes_of(Store(machine[0]), wishes)) > MOST_PARTS:
        raise TooMany(MOST_PARTS)
