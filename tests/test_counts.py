"""Points 63 and 64: how many losses there are, and which do harm."""

import random
import unittest
from itertools import combinations

from lostlines import counts
from lostlines.counts import count_losses, harm_counts, right_losses, small_harms
from lostlines.errors import BadNumber, BadProgram, BadWishes, TooMany
from lostlines.losses import harm, is_proof, outcomes
from tests import oracle
from tests.at_limits import SPARING
from tests.case import Case
from tests.samples import (
    AT_LIMIT, FOUR, LEVELLING, LONE, ONCE, OVER_LIMIT, OWN, PAIR, SEVENTEEN, cases, deep, some_wishes,
)

BACK = (0, None, (1,))
MADE = ((1, (0, 0)),)
KEPT = ((3, 3),)


class CountLosses(Case):
    def test_defined_in_their_file(self):
        self.are_defined_in(counts, ("count_losses", "right_losses", "harm_counts", "small_harms"))

    def test_no_line_and_few(self):
        for many in (1, 2, 3):
            self.assertEqual(count_losses(0, many), 1)
            self.assertEqual(count_losses(1, many), 2)
        self.assertEqual([count_losses(lines, 1) for lines in range(7)], [1, 2, 3, 5, 8, 13, 21])
        self.assertEqual([count_losses(lines, 2) for lines in range(7)], [1, 2, 4, 7, 13, 24, 44])
        self.assertEqual([count_losses(lines, 3) for lines in range(7)], [1, 2, 4, 8, 15, 29, 56])

    def test_by_all_losses(self):
        for lines in range(13):
            for many in (1, 2, 3):
                self.assertEqual(count_losses(lines, many), len(oracle.all_losses(lines, many)))

    def test_up_to_sixty_lines(self):
        """Losses of so many lines end in a line that is not lost, and up to many lost ones behind it."""
        for many in (1, 2, 3):
            found = [count_losses(lines, many) for lines in range(61)]
            for lines in range(many + 1, 61):
                self.assertEqual(found[lines], sum(found[lines - many - 1:lines]))
        self.assertEqual(count_losses(60, 1), 4052739537881)
        self.assertIs(count_losses(60, 3).__class__, int)

    def test_errors(self):
        for lines in (-1, 61, 1000, True, False, None, "1", (), (1,), [], {}):
            self.fails(BadNumber, {}, count_losses, lines, 1)
            self.fails(BadNumber, {}, count_losses, lines, 4)
        for many in (0, 4, -1, True, None, "1", (), [1], {}):
            for lines in (0, 5, 60):
                self.fails(BadNumber, {}, count_losses, lines, many)


class ByAllLosses(Case):
    def test_no_line(self):
        for many in (1, 2, 3):
            self.assertEqual(right_losses(PAIR, (), many, ((0, 0), (1, 1))), 1)
            self.assertEqual(right_losses(PAIR, (), many, ((0, 1),)), 0)
            self.assertEqual(harm_counts(PAIR, (), many, ((0, 0), (1, 1))), (0,))
            self.assertEqual(harm_counts(PAIR, (), many, ((0, 1),)), (1,))
            self.assertEqual(small_harms(PAIR, (), many, ((0, 0),)), ())
            self.assertEqual(small_harms(PAIR, (), many, ((0, 1),)), ((),))

    def test_no_harm(self):
        self.assertEqual(right_losses(PAIR, (ONCE,) * 4, 3, MADE), 15)
        self.assertEqual(harm_counts(PAIR, (ONCE,) * 4, 3, MADE), (0,) * 5)
        self.assertEqual(small_harms(PAIR, (ONCE,) * 4, 3, MADE), ())

    def test_one_way_to_harm(self):
        self.assertEqual(right_losses(PAIR, (ONCE,) * 3, 3, MADE), 7)
        self.assertEqual(harm_counts(PAIR, (ONCE,) * 3, 3, MADE), (0, 0, 0, 1))
        self.assertEqual(small_harms(PAIR, (ONCE,) * 3, 3, MADE), ((0, 1, 2),))

    def test_losses_of_no_line_that_do_harm(self):
        self.assertEqual(small_harms(PAIR, (ONCE, ONCE), 1, ((1, 1),)), ((),))
        self.assertEqual(small_harms(PAIR, (ONCE,), 1, ((1, 1),)), ((),))
        self.assertEqual(harm_counts(PAIR, (ONCE,), 1, ((1, 1),)), (1, 0))
        self.assertEqual(harm_counts(PAIR, (ONCE, ONCE), 1, ((1, 1),)), (1, 2, 0))

    def test_lines_that_only_help_together(self):
        """Losing the first of these does harm, and losing the second; losing both does none."""
        program = ((0, None, (1,)), (0, None, (2,)), (0, None, (3,)), (0, None, (3,)))
        self.assertEqual(small_harms(FOUR, program, 2, ((0, 3),)), ((2, 3),))
        machine = (2, (1,))
        program = ((1, 0, (0,)), (1, 0, (1,)), (0, None, (1,)))
        wishes = ((0, (0, (0, 0))),)
        self.assertEqual(small_harms(machine, program, 1, wishes), ((0,), (1,), (2,)))
        self.assertEqual(small_harms(machine, program, 3, wishes), ((0,), (1,), (2,)))

    def test_one_part_is_enough(self):
        program = ((1, 0, (0,)), OWN, (1, 0, (0,)), (1, 0, (0,)))
        wishes = ((1, (0, (0, 0))),)
        self.assertEqual(small_harms(PAIR, program, 2, wishes), ((1,), (2, 3)))
        self.assertEqual(harm_counts(PAIR, program, 2, wishes), (0, 1, 4, 2, 0))
        self.assertEqual(right_losses(PAIR, program, 2, wishes), 13 - 7)

    def test_harm_that_more_losses_undo(self):
        """Losing the last line does harm, but not together with the one ahead of it."""
        program = ((1, None, (0,)), OWN, BACK)
        self.assertEqual(harm_counts(PAIR, program, 3, ((0, 0),)), (0, 2, 2, 0))
        self.assertEqual(right_losses(PAIR, program, 3, ((0, 0),)), 4)
        self.assertEqual(small_harms(PAIR, program, 3, ((0, 0),)), ((0,), (2,)))
        self.assertEqual(harm_counts(PAIR, program, 1, ((0, 0),)), (0, 2, 1, 0))

    def test_ascending(self):
        program = (ONCE, ONCE, (2, 0, (1,)), ONCE, ONCE, (3, 0, (1,)))
        found = small_harms(FOUR, program, 3, ((1, (0, 0)), (2, (0, (0, 0))), (3, (0, (0, 0)))))
        self.assertEqual(found, ((0, 1), (2,), (5,)))
        self.assertEqual(small_harms(PAIR, (ONCE, BACK) * 2, 1, ((0, (0, (0, 0))),)), ((0,), (1,), (2,), (3,)))

    def test_sixty_lines(self):
        found = harm_counts(PAIR, (ONCE,) * 60, 3, ((1, 1),))
        self.assertEqual(len(found), 61)
        self.assertEqual(found[:4], (1, 60, 1770, 34220))
        # Of 60 lines 45 can be lost: 15 happen, and of the up to 3 lost in each of 16 gaps 3 in all are not.
        self.assertEqual(found[-16:], (816,) + (0,) * 15)
        self.assertEqual(sum(found), count_losses(60, 3))
        self.assertEqual(right_losses(PAIR, (ONCE,) * 60, 3, ((1, 1),)), 0)
        self.assertEqual(right_losses(PAIR, (ONCE,) * 60, 3, MADE), count_losses(60, 3))
        self.assertEqual(right_losses(PAIR, (BACK,) * 59 + (ONCE,), 1, ((0, 1),)), count_losses(60, 1))
        self.assertEqual(right_losses(PAIR, (BACK,) * 59 + (ONCE,), 1, ((1, 1),)), count_losses(58, 1))

    def test_as_the_long_way(self):
        chance = random.Random(64)
        seen = set()
        for machine, program, many in cases(64, 300, 8):
            try:
                wishes = some_wishes(chance, machine, oracle.ran(machine, program))
                harms = oracle.harmful(machine, program, many, wishes)
            except oracle.Deep:
                for function in (right_losses, harm_counts, small_harms):
                    self.fails(TooMany, {"most": 8}, function, machine, program, many, ((0, 0),))
                continue
            with self.subTest(machine=machine, program=program, many=many, wishes=wishes):
                right = len(oracle.all_losses(len(program), many)) - len(harms)
                self.assertEqual(right_losses(machine, program, many, wishes), right)
                by_size = tuple(sum(1 for one in harms if len(one) == size) for size in range(len(program) + 1))
                self.assertEqual(harm_counts(machine, program, many, wishes), by_size)
                wanted = oracle.small_harms(machine, program, many, wishes)
                self.assertEqual(small_harms(machine, program, many, wishes), wanted)
                seen.add(len(wanted))
        self.assertGreater(len(seen), 4)

    def test_small_harms_and_harm(self):
        chance = random.Random(65)
        for machine, program, many in cases(66, 100, 12):
            wishes = some_wishes(chance, machine, [0] * machine[0])
            try:
                found = small_harms(machine, program, many, wishes)
            except TooMany:
                continue
            self.assertEqual(not found, is_proof(machine, program, many, wishes))
            if found:
                self.assertEqual(min(map(len, found)), len(harm(machine, program, many, wishes)))
            for one, other in combinations(found, 2):
                self.assertFalse(set(one) <= set(other) or set(other) <= set(one))


class Limits(Case):
    def test_twelve_lines_and_thirteen(self):
        self.assertEqual(small_harms(PAIR, (ONCE,) * 12, 3, MADE), ())
        self.assertEqual(len(small_harms(PAIR, ((1, None, (0,)),) * 9 + (ONCE,) * 3, 3, MADE)), 1)
        for program in ((ONCE,) * 13, (ONCE,) * 60, (OWN,) * 13):
            self.fails(TooMany, {"most": 12}, small_harms, PAIR, program, 3, MADE)
            self.fails(BadNumber, {}, small_harms, PAIR, program, 4, MADE)
            self.fails(BadWishes, {"index": None}, small_harms, PAIR, program, 3, ())
        self.fails(BadProgram, {"index": None}, small_harms, PAIR, (ONCE,) * 61, 3, MADE)
        self.assertEqual(right_losses(PAIR, (ONCE,) * 13, 1, MADE), count_losses(13, 1))

    def test_too_deep_a_term(self):
        for function in (right_losses, harm_counts, small_harms):
            self.fails(TooMany, {"most": 8}, function, LONE, (OWN,) * 8, 1, ((0, 0),))
            self.fails(TooMany, {"most": 8}, function, PAIR, (OWN,) * 8 + (BACK,) * 2, 1, ((0, 1),))
            self.assertTrue(function(LONE, (OWN,) * 7, 1, ((0, deep(8)),)))

    def test_too_deep_a_term_only_if_a_line_is_lost(self):
        """Even if losing no line does harm, and so all losses have a part that does."""
        program = (OWN,) * 6 + (BACK, OWN, OWN)
        for function in (right_losses, harm_counts, small_harms):
            for wishes in (((1, 1),), ((1, 0),), ((0, (0, (0, 1))),)):
                self.fails(TooMany, {"most": 8}, function, PAIR, program, 1, wishes)

    def test_pairs(self):
        for function in (right_losses, harm_counts):
            for machine, many, program in OVER_LIMIT:
                self.fails(TooMany, {"most": 3000}, function, machine, program, many, ((0, 0),))
                self.fails(TooMany, {"most": 3000}, function, machine, program + LEVELLING, many, ((0, 0),))
            for many, machine, program in SPARING[3001]:
                self.fails(TooMany, {"most": 3000}, function, machine, program, many, KEPT)
        for many, machine, program in SPARING[3000]:
            self.assertEqual(right_losses(machine, program, many, KEPT), count_losses(len(program), many))
        for machine, many, program in AT_LIMIT:
            last = tuple(enumerate(oracle.ran(machine, program)))
            found = harm_counts(machine, program, many, last)
            self.assertEqual((len(found), found[0]), (len(program) + 1, 0))
            wanted = count_losses(len(program), many) - sum(found)
            self.assertEqual(right_losses(machine, program, many, last), wanted)

    def test_no_limit_of_pairs_for_twelve_lines(self):
        """Twelve lines have no more than 2872 losses, so there are never more pairs."""
        self.assertEqual(count_losses(12, 3), 2872)
        machine, many, program = OVER_LIMIT[0]
        self.assertGreater(len(outcomes(machine, program[:12], many)), 200)
        self.assertTrue(small_harms(machine, program[:12], many, ((0, 0),)))

    def test_wishes_of_many_parts(self):
        self.assertEqual(right_losses(PAIR, (ONCE,), 1, SEVENTEEN), 0)
        self.assertEqual(harm_counts(PAIR, (ONCE,), 1, SEVENTEEN), (1, 1))
        self.assertEqual(small_harms(PAIR, (ONCE,), 1, SEVENTEEN), ((),))


if __name__ == "__main__":
    unittest.main()
