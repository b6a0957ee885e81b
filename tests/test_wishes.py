"""Points 5 and 8, with wishes: is_proof, harm, shows_harm and is_repeat_proof."""

import random
import unittest

from lostlines.errors import TooMany
from lostlines.losses import harm, is_proof, is_repeat_proof, shows_harm
from tests import oracle
from tests.samples import (
    AT_LIMIT, FOUR, LEVELLING, LONE, ODD_VALUES, ONCE, OVER_LIMIT, OWN, PAIR, cases, deep, some_wishes, wide,
)

BACK = (0, None, (1,))
MADE = ((1, (0, 0)),)


class Case(unittest.TestCase):
    def too_many(self, most, function, *arguments):
        with self.assertRaises(TooMany) as caught:
            function(*arguments)
        self.assertEqual(caught.exception.most, most)


class Proof(Case):
    def test_no_line(self):
        self.assertIs(is_proof(PAIR, (), 1, ((0, 0),)), True)
        self.assertIs(is_proof(PAIR, (), 1, ((0, 0), (1, 1))), True)
        self.assertIs(is_proof(PAIR, (), 1, ((0, 1),)), False)

    def test_each_line_many_and_one_times(self):
        for many in (1, 2, 3):
            program = ((2, 0, (0,)),) * (many + 1) + ((3, 1, (2, 1)),) * (many + 1)
            wishes = ((3, (1, (0, 0), 1)),)
            self.assertIs(is_proof(FOUR, program, many, wishes), True)
            for left_out in range(len(program)):
                fewer = program[:left_out] + program[left_out + 1:]
                self.assertIs(is_proof(FOUR, fewer, many, wishes), False)

    def test_one_cell_and_all(self):
        program = (ONCE, ONCE, BACK)
        self.assertIs(is_proof(PAIR, program, 1, MADE), True)
        self.assertIs(is_proof(PAIR, program, 1, ((0, (0, 0)),)), False)
        self.assertIs(is_proof(PAIR, program, 1, ((0, (0, 0)), (1, (0, 0)))), False)
        self.assertIs(is_proof(PAIR, program + (BACK,), 1, ((0, (0, 0)), (1, (0, 0)))), True)
        self.assertIs(is_proof(FOUR, program, 1, ((2, 2), (3, 3))), True)
        self.assertIs(is_proof(FOUR, program, 1, ((2, 2), (3, 2))), False)
        self.assertIs(is_proof(FOUR, program + (BACK,), 1, ((0, (0, 0)), (1, (0, 0)), (2, 2), (3, 3))), True)

    def test_the_end_counts(self):
        self.assertIs(is_proof(PAIR, (ONCE, ONCE, (1, 0, (1,))), 1, MADE), False)

    def test_sixty_lines(self):
        program = ((1, 0, (0,)),) * 2 + ((0, 0, (1,)),) * 2
        self.assertIs(is_proof(PAIR, program * 3 + (BACK,) * 48, 1, ((0, (0, deep(6))), (1, (0, deep(5))))), False)
        self.assertIs(is_proof(PAIR, program * 3 + (BACK,) * 48, 1, ((0, deep(6)), (1, deep(6)))), True)
        self.assertIs(is_proof(PAIR, (ONCE,) * 60, 3, MADE), True)

    def test_a_wish_eight_deep(self):
        program = tuple(line for line in ((1, 0, (0,)), (0, 0, (1,))) * 4 for _ in range(2))[:14]
        self.assertIs(is_proof(PAIR, program, 1, ((1, deep(8)),)), True)
        self.assertIs(is_proof(PAIR, program, 1, ((0, deep(8)),)), False)
        self.assertIs(is_proof(PAIR, program, 1, ((0, deep(7)), (1, deep(8)))), True)
        self.assertIs(is_proof(PAIR, program, 1, ((1, wide(8)),)), False)


class Harm(Case):
    def test_none_without_any(self):
        self.assertIsNone(harm(PAIR, (ONCE, ONCE), 1, MADE))
        self.assertIsNone(harm(PAIR, (), 1, ((0, 0),)))

    def test_nothing_needs_to_be_lost(self):
        self.assertEqual(harm(PAIR, (), 1, ((0, 1),)), ())
        self.assertEqual(harm(PAIR, (ONCE, ONCE), 1, ((1, 1),)), ())
        self.assertEqual(harm(PAIR, (ONCE,), 1, ((0, 0), (1, 1))), ())

    def test_as_few_as_can_be(self):
        self.assertEqual(harm(PAIR, (ONCE,) * 3, 3, MADE), (0, 1, 2))
        self.assertEqual(harm(PAIR, (ONCE, ONCE, BACK), 3, ((0, (0, 0)), (1, (0, 0)))), (2,))
        self.assertEqual(harm(PAIR, (ONCE, ONCE, (1, 0, (1,)), BACK, ONCE, ONCE, ONCE), 2, ((0, 0),)), ())
        self.assertIn(harm(PAIR, (ONCE, ONCE, BACK, BACK, (1, None, (0,))), 2, MADE), ((0, 1), (2, 3)))

    def test_fewer_lines_that_come_to_the_same(self):
        machine = (2, (1,))
        program = ((0, None, (1,)), (1, 0, (1,)), OWN, (0, None, (1,)), (1, None, (0,)))
        self.assertEqual(harm(machine, program, 2, ((1, (0, 1)),)), (1,))
        self.assertIs(shows_harm(machine, program, 2, ((1, (0, 1)),), (1,)), True)
        self.assertIs(shows_harm(machine, program, 2, ((1, (0, 1)),), (2, 3)), False)
        program = ((1, None, (0,)), (1, None, (0,)), ONCE, BACK, BACK, (1, None, (0,)))
        self.assertEqual(harm(machine, program, 3, ((0, (0, 0)),)), (2,))

    def test_any_harmful_pair_of_cells(self):
        self.assertIn(harm(FOUR, ((1, 0, (0,)), (3, 0, (2,))), 1, ((1, (0, 0)), (3, (0, 2)))), ((0,), (1,)))

    def test_sixty_lines(self):
        self.assertEqual(harm(PAIR, (ONCE,) * 57 + (BACK,) * 3, 3, ((0, (0, 0)),)), (57, 58, 59))
        self.assertEqual(harm(FOUR, (ONCE,) * 3 + ((2, 0, (3,)),) * 57, 3, MADE), (0, 1, 2))

    def test_limits(self):
        for function in (is_proof, harm):
            self.too_many(8, function, PAIR, (OWN,) * 8 + (BACK,) * 4, 1, ((0, 1),))
            for machine, many, program in OVER_LIMIT:
                self.too_many(3000, function, machine, program, many, ((0, 0),))
                self.too_many(3000, function, machine, program + LEVELLING, many, ((0, 0),))
        for value in (None, (), (0,), "x"):
            self.too_many(8, shows_harm, PAIR, (OWN,) * 8 + (BACK,) * 4, 1, ((0, 1),), value)
            for machine, many, program in OVER_LIMIT:
                self.too_many(3000, shows_harm, machine, program + LEVELLING, many, ((0, 0),), value)

    def test_at_the_limit(self):
        for machine, many, program in AT_LIMIT:
            last = oracle.ran(machine, program)
            wishes = tuple(enumerate(last))
            self.assertIs(is_proof(machine, program, many, wishes), False)
            found = harm(machine, program, many, wishes)
            self.assertEqual(len(found), 1)
            self.assertIs(shows_harm(machine, program, many, wishes, found), True)
            self.assertIs(shows_harm(machine, program, many, wishes, None), False)


class ShowsHarm(Case):
    def test_none(self):
        self.assertIs(shows_harm(PAIR, (ONCE, ONCE), 1, MADE, None), True)
        self.assertIs(shows_harm(PAIR, (ONCE,), 1, MADE, None), False)

    def test_no_harm_but_a_value(self):
        for value in ((), (0,), (1,), False, 0, [], "", (0, 1)):
            self.assertIs(shows_harm(PAIR, (ONCE, ONCE), 1, MADE, value), False)

    def test_only_as_few_as_can_be(self):
        program = (ONCE, ONCE, BACK)
        wishes = ((0, (0, 0)), (1, (0, 0)))
        self.assertIs(shows_harm(PAIR, program, 3, wishes, (2,)), True)
        for value in ((), (0,), (1,), (0, 1), (0, 2), (1, 2), (0, 1, 2), (3,), (-1,)):
            self.assertIs(shows_harm(PAIR, program, 3, wishes, value), False)

    def test_any_of_several(self):
        arguments = (FOUR, ((1, 0, (0,)), (2, 2, (2, 2)), (3, 0, (0,))), 1, ((1, (0, 0)), (3, (0, 0))))
        for value, wanted in (((0,), True), ((1,), False), ((2,), True), ((0, 2), False)):
            self.assertIs(shows_harm(*arguments, value), wanted)

    def test_nothing_lost(self):
        self.assertIs(shows_harm(PAIR, (ONCE,), 1, ((1, 1),), ()), True)
        self.assertIs(shows_harm(PAIR, (ONCE,), 1, ((1, 0),), (0,)), False)
        for value in ([], {}, "", None, False, 0):
            self.assertIs(shows_harm(PAIR, (ONCE,), 1, ((1, 1),), value), False)

    def test_no_losses(self):
        program = (ONCE, ONCE)
        self.assertIs(shows_harm(PAIR, program, 2, MADE, (0, 1)), True)
        for value in ((1, 0), [0, 1], (0, 0), (False, True), (0, True), (0, 2), (-1, 0), (0, "1"), ((0,), 1), "01"):
            self.assertIs(shows_harm(PAIR, program, 2, MADE, value), False)

    def test_too_many_neighbours(self):
        self.assertIs(shows_harm(PAIR, (ONCE, ONCE, BACK), 1, MADE, (0, 1)), False)
        self.assertIs(shows_harm(PAIR, (ONCE, ONCE, ONCE), 2, MADE, (0, 1, 2)), False)

    def test_any_value(self):
        for value in ODD_VALUES:
            self.assertIs(shows_harm(PAIR, (ONCE, ONCE), 2, MADE, value), False)
            self.assertIs(shows_harm(PAIR, (ONCE,), 1, MADE, value), False)
            self.assertIs(shows_harm(PAIR, (ONCE, ONCE), 1, MADE, value), value is None)


class LongWay(Case):
    def test_losses(self):
        chance = random.Random(5)
        for machine, program, many in cases(5, 250, 7):
            try:
                holds = oracle.ran(machine, program)
                wishes = some_wishes(chance, machine, holds)
                harms = oracle.harms(machine, program, many, wishes)
            except oracle.Deep:
                self.too_many(8, is_proof, machine, program, many, ((0, 0),))
                self.too_many(8, harm, machine, program, many, ((0, 0),))
                self.too_many(8, shows_harm, machine, program, many, ((0, 0),), None)
                continue
            with self.subTest(machine=machine, program=program, many=many, wishes=wishes):
                self.assertIs(is_proof(machine, program, many, wishes), not harms)
                self.assertIn(harm(machine, program, many, wishes), harms or [None])
                self.assertIs(shows_harm(machine, program, many, wishes, None), not harms)
                for value in oracle.all_losses(len(program), 3):
                    self.assertIs(shows_harm(machine, program, many, wishes, value), value in harms)

    def test_repeats(self):
        chance = random.Random(6)
        for machine, program, many in cases(6, 250, 4):
            wishes = some_wishes(chance, machine, oracle.ran(machine, program))
            with self.subTest(machine=machine, program=program, many=many, wishes=wishes):
                try:
                    wanted = oracle.is_repeat_proof(machine, program, many, wishes)
                except oracle.Deep:
                    self.too_many(8, is_repeat_proof, machine, program, many, wishes)
                    continue
                self.assertIs(is_repeat_proof(machine, program, many, wishes), wanted)


class RepeatProof(Case):
    def test_no_line(self):
        self.assertIs(is_repeat_proof(PAIR, (), 1, ((0, 0), (1, 1))), True)
        self.assertIs(is_repeat_proof(PAIR, (), 3, ((1, 0),)), False)

    def test_gentle_lines(self):
        program = (ONCE, (0, 1, (1, 1)), (1, None, (0,)))
        term = (1, (0, 0), (0, 0))
        for many in (1, 2, 3):
            self.assertIs(is_repeat_proof(PAIR, program, many, ((0, term), (1, term))), True)
            self.assertIs(is_repeat_proof(PAIR, program, many, ((0, (0, 0)),)), False)

    def test_a_line_that_reads_its_own_cell(self):
        for many in (1, 2, 3):
            for term in (0, deep(2), deep(3), deep(5)):
                self.assertIs(is_repeat_proof(LONE, (OWN,), many, ((0, term),)), False)
            self.assertIs(is_repeat_proof(PAIR, ((1, 1, (0, 1)),), many, ((1, (1, 0, 1)),)), False)
            self.assertIs(is_repeat_proof(PAIR, ((1, 1, (0, 1)),), many, ((0, 0),)), True)

    def test_what_comes_of_it(self):
        self.assertIs(is_repeat_proof(PAIR, (OWN, ONCE), 1, ((1, (0, (0, 0))),)), False)
        self.assertIs(is_repeat_proof(PAIR, (OWN, ONCE), 1, ((1, (0, (0, (0, 0)))),)), False)
        self.assertIs(is_repeat_proof(FOUR, (OWN, (2, 1, (0, 1))), 1, ((2, (1, (0, 0), 1)),)), False)

    def test_overwritten(self):
        self.assertIs(is_repeat_proof(PAIR, (OWN, BACK), 1, ((0, 1), (1, 1))), True)
        self.assertIs(is_repeat_proof(PAIR, (OWN, ONCE, (1, None, (0,)), BACK), 1, ((0, 0),)), False)
        self.assertIs(is_repeat_proof(FOUR, (OWN, (0, 0, (2,))), 3, ((0, (0, 2)),)), True)

    def test_copied_ahead(self):
        self.assertIs(is_repeat_proof(PAIR, ((1, None, (0,)), OWN), 2, ((1, 0),)), True)

    def test_all_of_several_wishes(self):
        self.assertIs(is_repeat_proof(PAIR, (OWN,), 1, ((0, (0, 0)), (1, 1))), False)
        self.assertIs(is_repeat_proof(FOUR, (OWN,), 1, ((1, 1), (2, 2), (3, 3))), True)
        self.assertIs(is_repeat_proof(FOUR, (OWN,), 1, ((1, 1), (2, 2), (3, 2))), False)

    def test_lines_are_not_lost(self):
        self.assertIs(is_repeat_proof(PAIR, (ONCE,), 1, MADE), True)
        self.assertIs(is_proof(PAIR, (ONCE,), 1, MADE), False)

    def test_up_to_many_times_more(self):
        self.assertIs(is_repeat_proof(PAIR, (OWN, BACK) * 4, 3, ((0, 1),)), True)
        for many, lines in ((1, 3), (2, 2), (3, 1)):
            self.assertIs(is_repeat_proof(PAIR, (OWN,) * lines, many, ((1, 1),)), True)
            self.too_many(8, is_repeat_proof, PAIR, (OWN,) * (lines + 1), many, ((1, 1),))

    def test_just_eight_deep(self):
        self.assertIs(is_repeat_proof(PAIR, (OWN,) * 3 + (ONCE,), 1, ((1, deep(8)),)), False)
        self.too_many(8, is_repeat_proof, PAIR, (OWN,) * 3 + (ONCE, (0, 0, (1,))), 1, ((1, deep(8)),))

    def test_deeper_on_the_way(self):
        self.too_many(8, is_repeat_proof, PAIR, (OWN,) * 4 + (BACK,), 1, ((1, 1),))
        self.assertIs(is_repeat_proof(PAIR, (OWN,) * 3 + (BACK,) + (OWN,) * 3 + (BACK,), 1, ((0, 1), (1, 1))), True)

    def test_sixty_lines(self):
        self.assertIs(is_repeat_proof(PAIR, (ONCE, BACK) * 2 + (ONCE,) * 56, 3, ((1, (0, deep(3))),)), True)
        self.assertIs(is_repeat_proof(PAIR, (OWN,) + (ONCE, BACK) * 2 + (ONCE,) * 55, 1, ((1, (0, deep(4))),)), False)

    def test_more_tuples_than_losses_may_lead_to(self):
        words = {cell: tuple((cell, function, (cell,)) for function in (0, 1, 0)) for cell in (0, 1, 2)}
        program = words[1] + words[2] + ((0, 2, (1, 2)), (1, None, (3,))) + words[1] + ((2, None, (3,)),) + words[2]
        self.assertIs(is_repeat_proof((4, (1, 1, 2)), program, 1, ((3, 3),)), True)
        self.assertIs(is_repeat_proof((4, (1, 1, 2)), program, 1, ((2, 3), (3, 3))), False)


if __name__ == "__main__":
    unittest.main()
