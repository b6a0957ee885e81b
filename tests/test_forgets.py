"""Point 66: cells that forget."""

import random
import unittest
from itertools import combinations, product

from lostlines import forgets
from lostlines.errors import BadCells, BadMachine, BadProgram, BadWishes, NoProgram, TooMany
from lostlines.forgets import bearing, bears_forgetting, can_bear
from lostlines.machines import run
from tests import oracle
from tests.case import Case
from tests.samples import FOUR, LONE, ONCE, OVER_LIMIT, OWN, PAIR, SEVENTEEN, SIXTEEN, cases, deep, some_wishes

BACK = (0, None, (1,))
MADE = ((1, (0, 0)),)
THREE = (3, (1,))
ALL = tuple((cell, cell) for cell in range(4))


def lots(cells):
    """All lots of so many cells."""
    return [lot for size in range(cells + 1) for lot in combinations(range(cells), size)]


def bears(rows, wishes):
    return all(oracle.is_fulfilled(holds, wishes) for holds in rows)


class BearsForgetting(Case):
    def test_defined_in_their_file(self):
        self.are_defined_in(forgets, ("bears_forgetting", "can_bear", "bearing"))

    def test_no_line(self):
        """Behind the last line they may forget, even if there is none."""
        self.assertIs(bears_forgetting(PAIR, (), (), ((0, 0), (1, 1))), True)
        self.assertIs(bears_forgetting(PAIR, (), (0,), ((1, 1),)), True)
        self.assertIs(bears_forgetting(PAIR, (), (0,), ((0, 0),)), False)
        self.assertIs(bears_forgetting(PAIR, (), (0, 1), ((0, 0),)), False)
        self.assertIs(bears_forgetting(PAIR, (), (), ((0, 1),)), False)

    def test_no_cell_that_forgets(self):
        chance = random.Random(660)
        for machine, program, _ in cases(660, 80, 6):
            holds = oracle.ran(machine, program)
            wishes = some_wishes(chance, machine, holds)
            self.assertIs(bears_forgetting(machine, program, (), wishes), oracle.is_fulfilled(holds, wishes))
            self.assertIs(bears_forgetting(machine, program, (), tuple(enumerate(holds))), True)

    def test_all_cells_that_forget(self):
        for program in ((), (ONCE,), (ONCE, BACK) * 3):
            for wishes in (((0, 0),), MADE, ((0, 0), (1, 1))):
                self.assertIs(bears_forgetting(PAIR, program, (0, 1), wishes), False)

    def test_a_wish_of_a_cell_that_forgets(self):
        self.assertIs(bears_forgetting(PAIR, (ONCE,), (1,), MADE), False)
        self.assertIs(bears_forgetting(PAIR, (ONCE,) * 60, (1,), MADE), False)
        self.assertIs(bears_forgetting(PAIR, (ONCE,), (1,), ((0, 0),)), True)
        self.assertIs(bears_forgetting(PAIR, (ONCE,), (1,), ((0, 0), (1, (0, 0)))), False)

    def test_a_cell_that_is_read(self):
        self.assertIs(bears_forgetting(PAIR, (ONCE,), (0,), MADE), False)
        self.assertIs(bears_forgetting(PAIR, ((1, None, (0,)),), (0,), ((1, 0),)), False)
        self.assertIs(bears_forgetting(FOUR, ((1, 1, (0, 2)),), (2,), ((1, (1, 0, 2)),)), False)
        self.assertIs(bears_forgetting(FOUR, ((1, 1, (2, 0)),), (3,), ((1, (1, 2, 0)),)), True)

    def test_what_comes_of_it(self):
        program = ((2, 0, (0,)), (1, None, (2,)))
        self.assertIs(bears_forgetting(THREE, program, (2,), MADE), False)
        self.assertIs(bears_forgetting(THREE, program, (), MADE), True)
        program = ((1, 0, (2,)), (0, 0, (1,)), (1, 0, (1,)))
        self.assertIs(bears_forgetting(THREE, program, (2,), ((0, (0, (0, 2))),)), False)
        self.assertIs(bears_forgetting(THREE, program, (2,), ((1, (0, (0, 2))),)), False)

    def test_set_anew(self):
        program = ((1, None, (2,)), (1, 0, (0,)))
        self.assertIs(bears_forgetting(THREE, program, (2,), MADE), True)
        self.assertIs(bears_forgetting(THREE, program + ((0, None, (2,)),), (2,), MADE), True)
        self.assertIs(bears_forgetting(THREE, ((2, None, (0,)), (1, 0, (0,))), (2,), MADE), True)
        self.assertIs(bears_forgetting(THREE, ((1, None, (2,)), (1, 0, (0,)), (1, None, (2,))), (2,), MADE), False)

    def test_by_all_ways_of_forgetting(self):
        chance = random.Random(661)
        seen = set()
        for machine, program, _ in cases(661, 250, 7):
            wishes = some_wishes(chance, machine, oracle.ran(machine, program))
            for lot in lots(machine[0]):
                wanted = bears(oracle.forgetting(machine, program, lot), wishes)
                seen.add((wanted, len(lot)))
                with self.subTest(machine=machine, program=program, forgets=lot, wishes=wishes):
                    self.assertIs(bears_forgetting(machine, program, lot, wishes), wanted)
        self.assertEqual(len(seen), 9)

    def test_never_more_than_sixteen_tuples(self):
        """So there can't be more than 3000 of them."""
        for machine, program, _ in cases(662, 60, 8):
            self.assertLessEqual(len(oracle.forgetting(machine, program, tuple(range(machine[0])))), 16)
        for machine, _, program in OVER_LIMIT:
            self.assertIs(bears_forgetting(machine, program, (0, 1, 2, 3), ((0, 0),)), False)

    def test_sixty_lines(self):
        program = (ONCE, (2, 0, (1,))) * 30
        self.assertIs(bears_forgetting(FOUR, program, (3,), ((2, (0, (0, 0))),)), True)
        self.assertIs(bears_forgetting(FOUR, program, (1,), ((2, (0, (0, 0))),)), False)

    def test_too_deep_a_term(self):
        for lot in ((), (0,), (1,), (0, 1)):
            self.fails(TooMany, {"most": 8}, bears_forgetting, PAIR, (OWN,) * 8, lot, ((1, 1),))
            self.fails(TooMany, {"most": 8}, bears_forgetting, PAIR, (OWN,) * 8 + (BACK,), lot, ((0, 1),))
            self.assertIs(bears_forgetting(PAIR, (OWN,) * 7, lot, ((1, 1),)), 1 not in lot)
        self.assertIs(bears_forgetting(PAIR, (OWN,) * 7, (1,), ((0, deep(8)),)), True)

    def test_lines_are_not_lost(self):
        self.assertIs(bears_forgetting(PAIR, (OWN,) * 6 + (BACK, OWN, OWN), (), ((0, (0, (0, 1))),)), True)

    def test_errors(self):
        for value in (None, 0, [0], (2,), (1, 0), (0, 0), (True,), (-1,), "0"):
            self.fails(BadCells, {}, bears_forgetting, PAIR, (OWN,) * 9, value, ())
            self.fails(BadCells, {}, can_bear, PAIR, value, SEVENTEEN)
            self.fails(BadCells, {}, bearing, PAIR, value, ((0, 1), (1, 0)))
        self.fails(BadProgram, {"index": 0}, bears_forgetting, PAIR, (None,), (2,), MADE)
        self.fails(BadWishes, {"index": 1}, bears_forgetting, PAIR, (OWN,) * 9, (0,), ((0, 0), (0, 0)))
        self.assertIs(bears_forgetting(PAIR, (), (0,), SEVENTEEN), False)


class CanBear(Case):
    def check_borne(self, machine, lot, wishes):
        """A program of bearing bears it, and does not touch the cells; NoProgram comes just if can_bear says no."""
        if not can_bear(machine, lot, wishes):
            self.fails(NoProgram, {}, bearing, machine, lot, wishes)
            return False
        program = bearing(machine, lot, wishes)
        self.assertIs(program.__class__, tuple)
        self.assertTrue(oracle.is_fulfilled(run(machine, program), wishes))
        self.assertIs(bears_forgetting(machine, program, lot, wishes), True)
        return True

    def test_no_cell_that_forgets(self):
        for wishes, wanted in ((MADE, True), (((0, (0, 0)),), True), (((0, 1), (1, 0)), False), (((0, 0),), True)):
            self.assertIs(self.check_borne(PAIR, (), wishes), wanted)
        self.assertIs(self.check_borne(LONE, (), ((0, deep(8)),)), True)

    def test_all_cells_that_forget(self):
        for wishes in (((0, 0),), MADE, ((0, 0), (1, 1))):
            self.assertIs(self.check_borne(PAIR, (0, 1), wishes), False)
        self.assertIs(self.check_borne(LONE, (0,), ((0, 0),)), False)

    def test_a_wish_of_a_cell_that_forgets(self):
        for cell in range(4):
            self.assertIs(self.check_borne(FOUR, (cell,), ALL), False)
            self.assertIs(self.check_borne(FOUR, (cell,), ALL[:cell] + ALL[cell + 1:]), True)
            self.assertIs(self.check_borne(FOUR, (cell,), (ALL[cell],)), False)

    def test_what_a_cell_that_forgets_held(self):
        self.assertIs(self.check_borne(THREE, (0,), MADE), False)
        self.assertIs(self.check_borne(THREE, (0,), ((1, 0),)), False)
        self.assertIs(self.check_borne(THREE, (2,), MADE), True)
        self.assertIs(self.check_borne(FOUR, (3,), ((1, (1, 0, 2)),)), True)
        self.assertIs(self.check_borne(FOUR, (2,), ((1, (1, 0, 2)),)), False)

    def test_a_cell_too_few(self):
        swapped = ((0, 1), (1, 0))
        self.assertIs(self.check_borne(THREE, (), swapped), True)
        self.assertIs(self.check_borne(THREE, (2,), swapped), False)
        self.assertIs(self.check_borne(FOUR, (2,), swapped), True)
        self.assertIs(self.check_borne(FOUR, (2, 3), swapped), False)

    def test_lines_that_are_not_gentle(self):
        self.assertIs(self.check_borne(PAIR, (1,), ((0, (1, 0, 0)),)), True)
        self.assertIs(self.check_borne(PAIR, (1,), ((0, deep(8)),)), True)
        self.assertIs(self.check_borne(PAIR, (1,), ((0, (1, 0, (0, 0))),)), False)
        self.assertIs(self.check_borne(PAIR, (), ((0, (1, 0, (0, 0))),)), True)

    def test_wishes_that_need_no_line(self):
        self.assertEqual(bearing(PAIR, (0,), ((1, 1),)), ())
        self.assertEqual(bearing(FOUR, (), ALL), ())

    def test_against_all_programs(self):
        for machine, most in ((LONE, 4), ((2, (1,)), 3), (PAIR, 2), (THREE, 2)):
            programs = oracle.all_programs(oracle.all_lines(machine), most)
            for lot in lots(machine[0]):
                borne = set()
                for program in programs:
                    for cell, held in enumerate(zip(*oracle.forgetting(machine, program, lot))):
                        if len(set(held)) == 1 and held[0] is not None:
                            borne.add((cell, held[0]))
                for wish in product(range(machine[0]), oracle.terms(machine, 2)):
                    with self.subTest(machine=machine, forgets=lot, wish=wish):
                        found = self.check_borne(machine, lot, (wish,))
                        if not found or len(bearing(machine, lot, (wish,))) <= most:
                            self.assertIs(found, wish in borne)

    def test_by_all_lines_that_leave_the_cells_alone(self):
        chance = random.Random(664)
        seen = set()
        for machine, deepest in (((2, (1,)), 4), (PAIR, 3), (THREE, 3), ((3, (2,)), 2), ((4, (1,)), 2)):
            terms = oracle.terms(machine, deepest)
            for lot in lots(machine[0]):
                lines = [line for line in oracle.all_lines(machine)
                         if line[0] not in lot and not any(source in lot for source in line[2])]
                lengths = oracle.lengths(machine, lines, deepest)
                for at in range(12):
                    wishes = some_wishes(chance, machine, chance.choice(list(lengths)))
                    if at % 3 == 0:
                        wishes = tuple((cell, chance.choice(terms)) for cell, _ in wishes)
                    wanted = oracle.least(lengths, wishes) is not None and all(cell not in lot for cell, _ in wishes)
                    seen.add((wanted, len(lot)))
                    with self.subTest(machine=machine, forgets=lot, wishes=wishes):
                        self.assertIs(self.check_borne(machine, lot, wishes), wanted)
        self.assertGreaterEqual(seen, {(wanted, size) for wanted in (True, False) for size in range(3)})

    def test_some_program_bears_it(self):
        """What some program bears, can_bear tells."""
        chance = random.Random(663)
        tried = 0
        for machine, program, _ in cases(663, 200, 6):
            wishes = some_wishes(chance, machine, oracle.ran(machine, program))
            for lot in lots(machine[0]):
                if bears_forgetting(machine, program, lot, wishes):
                    tried += 1
                    self.assertIs(self.check_borne(machine, lot, wishes), True)
                elif not lot or any(cell in lot for cell, _ in wishes):
                    self.check_borne(machine, lot, wishes)
        self.assertGreater(tried, 200)

    def test_parts(self):
        for lot in ((), (0,), (1,), (0, 1)):
            self.fails(TooMany, {"most": 16}, can_bear, PAIR, lot, SEVENTEEN)
            self.fails(TooMany, {"most": 16}, bearing, PAIR, lot, SEVENTEEN)
            self.assertIs(self.check_borne(PAIR, lot, SIXTEEN), lot == ())
        self.assertIs(self.check_borne(THREE, (2,), SIXTEEN), True)
        self.fails(BadWishes, {"index": 2}, bearing, PAIR, (0,), SEVENTEEN + ((1, 0),))
        self.fails(BadMachine, {"part": "cells"}, can_bear, (0, ()), None, SEVENTEEN)


if __name__ == "__main__":
    unittest.main()
