"""Point 43: lines that change places."""

import random
import unittest

from lostlines import swaps as module
from lostlines.errors import BadSwaps, TooMany
from lostlines.swaps import is_swap_proof, outcomes_swapped, run_swapped, shows_swap_harm, swap_harm
from tests import oracle
from tests.at_limits import SWAPPED
from tests.samples import FOUR, LONE, ODD_VALUES, ONCE, OWN, PAIR, cases, deep, some_wishes

BACK = (0, None, (1,))
MADE = ((1, (0, 0)),)
NAMES = ("run_swapped", "outcomes_swapped", "is_swap_proof", "swap_harm", "shows_swap_harm")


class Case(unittest.TestCase):
    def too_many(self, most, function, *arguments):
        with self.assertRaises(TooMany) as caught:
            function(*arguments)
        self.assertEqual(caught.exception.most, most)


class RunSwapped(Case):
    def test_defined_in_their_file(self):
        for name in NAMES:
            self.assertEqual(getattr(module, name).__module__, "lostlines.swaps")

    def test_no_swaps(self):
        self.assertEqual(run_swapped(FOUR, (), ()), (0, 1, 2, 3))
        self.assertEqual(run_swapped(PAIR, (ONCE,), ()), (0, (0, 0)))
        self.assertEqual(run_swapped(PAIR, (ONCE, BACK), ()), ((0, 0), (0, 0)))

    def test_a_line_and_the_next_one(self):
        self.assertEqual(run_swapped(PAIR, (ONCE, BACK), (0,)), (1, (0, 1)))
        self.assertEqual(run_swapped(PAIR, (OWN, ONCE, BACK), (1,)), (1, (0, 1)))
        self.assertEqual(run_swapped(PAIR, (OWN, ONCE, BACK), (0,)), ((0, 0), (0, 0)))

    def test_several(self):
        program = (ONCE, BACK, OWN, ONCE, BACK)
        self.assertEqual(run_swapped(PAIR, program, (0, 2)), oracle.ran(PAIR, (BACK, ONCE, ONCE, OWN, BACK)))
        self.assertEqual(run_swapped(PAIR, program, (1, 3)), oracle.ran(PAIR, (ONCE, OWN, BACK, BACK, ONCE)))
        self.assertEqual(run_swapped(PAIR, program, (0, 3)), oracle.ran(PAIR, (BACK, ONCE, OWN, BACK, ONCE)))

    def test_sixty_lines(self):
        program = ((0, None, (1,)), (1, None, (2,)), (2, None, (0,))) * 20
        for swaps in ((), tuple(range(0, 59, 2)), tuple(range(1, 59, 2)), (0, 58)):
            self.assertEqual(run_swapped(FOUR, program, swaps), oracle.ran(FOUR, oracle.swapped(program, swaps)))
        for swaps in ((59,), (57, 58), (58, 60)):
            with self.assertRaises(BadSwaps):
                run_swapped(FOUR, program, swaps)

    def test_just_the_swaps_of_the_document(self):
        for lines in range(6):
            program = (ONCE, BACK, OWN, (1, 1, (0, 1)), BACK)[:lines]
            right = oracle.held_swapped(PAIR, program)
            for value in oracle.subsets(lines + 1):
                if value in right:
                    self.assertEqual(run_swapped(PAIR, program, value), right[value])
                else:
                    with self.assertRaises(BadSwaps):
                        run_swapped(PAIR, program, value)

    def test_no_such_swaps(self):
        program = (ONCE, BACK, OWN, ONCE)
        for value in (None, True, 0, "", "0", [], [0], {}, {0: 1}, (3,), (4,), (-1,), (0, 1), (1, 2), (0, 0), (2, 0),
                      (0, 2, 3), (True,), (False,), (0, True), (None,), ("0",), ((0,),), ([],), (0, None), (-2, 0)):
            with self.subTest(value=value), self.assertRaises(BadSwaps):
                run_swapped(PAIR, program, value)
        for program in ((), (ONCE,)):
            with self.assertRaises(BadSwaps):
                run_swapped(PAIR, program, (0,))

    def test_deeper(self):
        self.too_many(8, run_swapped, LONE, (OWN,) * 8, ())
        program = (OWN,) * 6 + (BACK, OWN, OWN)
        self.assertEqual(run_swapped(PAIR, program, (6,)), ((0, 1), 1))
        self.assertEqual(run_swapped(PAIR, program, (5,)), ((0, (0, (0, 1))), 1))
        self.too_many(8, run_swapped, PAIR, (OWN,) * 7 + (BACK, OWN), (7,))


class Outcomes(Case):
    def test_no_line_and_one(self):
        self.assertEqual(outcomes_swapped(PAIR, ()), ((0, 1),))
        self.assertEqual(outcomes_swapped(PAIR, (ONCE,)), ((0, (0, 0)),))

    def test_two_lines(self):
        self.assertEqual(outcomes_swapped(PAIR, (ONCE, BACK)), ((1, (0, 1)), ((0, 0), (0, 0))))
        self.assertEqual(outcomes_swapped(PAIR, (ONCE, ONCE)), ((0, (0, 0)),))

    def test_sixty_lines(self):
        self.assertEqual(outcomes_swapped(PAIR, (ONCE,) * 60), ((0, (0, 0)),))
        wanted = (((0, 0), (0, (0, 0))), ((0, 0), (0, 0)))
        self.assertEqual(outcomes_swapped(PAIR, (ONCE,) * 59 + (BACK,)), wanted[1:] + wanted[:1])

    def test_as_the_long_way(self):
        chance = random.Random(20)
        for machine, program, _ in cases(20, 350, 9):
            with self.subTest(machine=machine, program=program):
                try:
                    rows = oracle.held_swapped(machine, program)
                except oracle.Deep:
                    self.too_many(8, outcomes_swapped, machine, program)
                    self.too_many(8, is_swap_proof, machine, program, ((0, 0),))
                    self.too_many(8, swap_harm, machine, program, ((0, 0),))
                    self.too_many(8, shows_swap_harm, machine, program, ((0, 0),), None)
                    continue
                self.assertEqual(outcomes_swapped(machine, program), oracle.in_order(rows.values()))
                wishes = some_wishes(chance, machine, oracle.ran(machine, program))
                harms = oracle.fewest_harms(rows, wishes)
                self.assertIs(is_swap_proof(machine, program, wishes), not harms)
                self.assertIn(swap_harm(machine, program, wishes), harms or [None])
                for value in [None] + oracle.subsets(min(len(program), 7)):
                    wanted = value in (harms or [None])
                    self.assertIs(shows_swap_harm(machine, program, wishes, value), wanted)

    def test_deeper_only_by_a_swap(self):
        program = (OWN,) * 7 + (BACK, OWN)
        self.assertEqual(oracle.ran(PAIR, program), ((0, 1), 1))
        for function, more in ((outcomes_swapped, ()), (is_swap_proof, (((1, 1),),)), (swap_harm, (((1, 1),),)),
                               (shows_swap_harm, (((1, 1),), ()))):
            self.too_many(8, function, PAIR, program, *more)

    def test_just_as_many_tuples(self):
        machine, program = SWAPPED[3000]
        found = outcomes_swapped(machine, program)
        self.assertEqual(len(found), 3000)
        texts = [[oracle.text(term) for term in row] for row in found]
        self.assertEqual(texts, sorted(texts))

    def test_one_tuple_more(self):
        machine, program = SWAPPED[3001]
        self.assertTrue(outcomes_swapped(machine, program[:-1]))
        levelling = tuple((cell, None, (3,)) for cell in (0, 1, 2)) * 4
        for lines in (program, program + levelling):
            for function, more in ((outcomes_swapped, ()), (is_swap_proof, (((0, 0),),)), (swap_harm, (((0, 0),),)),
                                   (shows_swap_harm, (((0, 0),), None))):
                self.too_many(3000, function, machine, lines, *more)
            self.assertEqual(run_swapped(machine, lines, ()), oracle.ran(machine, lines))


class Harm(Case):
    def test_none_without_any(self):
        for program in ((), (ONCE,), (ONCE, ONCE), (ONCE, ONCE, BACK)):
            self.assertIs(is_swap_proof(PAIR, program, ((1, oracle.ran(PAIR, program)[1]),)), len(program) < 3)
        self.assertIsNone(swap_harm(PAIR, (ONCE, ONCE), MADE))
        self.assertIs(shows_swap_harm(PAIR, (ONCE, ONCE), MADE, None), True)
        self.assertIs(shows_swap_harm(PAIR, (ONCE, ONCE), MADE, ()), False)

    def test_no_swap_is_needed(self):
        self.assertEqual(swap_harm(PAIR, (ONCE, BACK), ((0, 0),)), ())
        self.assertEqual(swap_harm(PAIR, (), ((0, 1),)), ())
        self.assertIs(shows_swap_harm(PAIR, (ONCE, BACK), ((0, 0),), ()), True)
        self.assertIs(shows_swap_harm(PAIR, (ONCE, BACK), ((0, 0),), (0,)), False)

    def test_as_few_as_can_be(self):
        self.assertEqual(swap_harm(PAIR, (ONCE, BACK), MADE), (0,))
        program = ((1, 0, (0,)), (2, 0, (3,)), (1, 0, (0,)), (0, 0, (0,)))
        self.assertEqual(swap_harm(FOUR, program, MADE), (2,))
        program = (ONCE, BACK, (3, 0, (2,)), ONCE, BACK)
        self.assertEqual(swap_harm(FOUR, program, ((0, deep(3)),)), (0,))
        for value, wanted in (((0,), True), ((3,), True), ((0, 3), False), ((1,), False), ((), False), (None, False)):
            self.assertIs(shows_swap_harm(FOUR, program, ((0, deep(3)),), value), wanted)

    def test_two_are_needed(self):
        machine = (3, (1,))
        program = ((2, None, (1,)), (2, None, (0,)), (2, None, (0,)), (0, 0, (2,)))
        self.assertEqual(swap_harm(machine, program, ((0, (0, 0)),)), (0, 2))
        for value, wanted in (((0, 2), True), ((0,), False), ((2,), False), ((1,), False), ((), False), (None, False)):
            self.assertIs(shows_swap_harm(machine, program, ((0, (0, 0)),), value), wanted)
        self.assertIs(is_swap_proof(machine, program[1:], ((0, (0, 0)),)), True)

    def test_any_value(self):
        for value in ODD_VALUES:
            self.assertIs(shows_swap_harm(PAIR, (ONCE, BACK), MADE, value), False)
            self.assertIs(shows_swap_harm(PAIR, (ONCE, ONCE), MADE, value), value is None)
        for value in ([0], (1,), (-1,), (False,), (0, 0), (0, 1), "0", {0: 0}):
            self.assertIs(shows_swap_harm(PAIR, (ONCE, BACK), MADE, value), False)
        self.assertIs(shows_swap_harm(PAIR, (ONCE, BACK), MADE, (0,)), True)


if __name__ == "__main__":
    unittest.main()
