"""Point 62: what lines of a proof program can be left out."""

import random
import unittest
from itertools import combinations

from lostlines import leavings
from lostlines.errors import BadNumber, BadProgram, BadWishes, TooMany
from lostlines.leavings import least_within, needless
from lostlines.losses import is_proof, outcomes, sure_terms
from tests import oracle
from tests.at_limits import SPARING
from tests.case import Case
from tests.samples import (
    FOUR, LEVELLING, LONE, ONCE, OVER_LIMIT, OWN, PAIR, SEVENTEEN, cases, deep, some_machine, some_proof, some_wishes,
    sure_wishes,
)

BACK = (0, None, (1,))
MADE = ((1, (0, 0)),)
KEPT = ((3, 3),)
BOTH = (needless, least_within)
NO_PROOF = {"index": None}


def proofs(seed, count, most_lines):
    """Machines, programs, many and wishes for which they are proof."""
    chance = random.Random(seed)
    found = []
    while len(found) < count:
        machine, many = some_machine(chance), chance.randint(1, 3)
        program = some_proof(chance, machine, many, chance.randint(0, most_lines))
        try:
            sure = oracle.sure_terms(machine, program, many)[-1]
        except oracle.Deep:
            continue
        wishes = sure_wishes(chance, sure)
        if wishes and (any(isinstance(term, tuple) for _, term in wishes) or chance.randrange(9) == 0):
            found.append((machine, program, many, wishes))
    return found


class Needless(Case):
    def test_defined_in_their_file(self):
        self.are_defined_in(leavings, ("needless", "least_within"))

    def test_no_line(self):
        for many in (1, 2, 3):
            self.assertEqual(needless(PAIR, (), many, ((0, 0), (1, 1))), ())

    def test_any_of_more_lines_than_needed(self):
        for many in (1, 2, 3):
            self.assertEqual(needless(PAIR, (ONCE,) * (many + 1), many, MADE), ())
            self.assertEqual(needless(PAIR, (ONCE,) * (many + 2), many, MADE), tuple(range(many + 2)))

    def test_each_alone(self):
        """Any one of these can be left out, but not two."""
        self.assertEqual(needless(PAIR, (ONCE,) * 3, 1, MADE), (0, 1, 2))
        for number in range(3):
            self.assertEqual(needless(PAIR, ((ONCE,) * 3)[:number] + ((ONCE,) * 3)[number + 1:], 1, MADE), ())

    def test_lines_that_nothing_needs(self):
        program = (ONCE, ONCE, (0, None, (2,)), (0, 0, (3,)))
        self.assertEqual(needless(FOUR, program, 1, MADE), (2, 3))
        self.assertEqual(needless(FOUR, program, 1, ((1, (0, 0)), (3, 3))), (2, 3))
        self.assertEqual(needless(FOUR, program, 1, ((3, 3),)), (0, 1, 2, 3))

    def test_a_line_between(self):
        self.assertEqual(needless(FOUR, (ONCE, ONCE, (2, 0, (3,)), ONCE), 1, MADE), (2, 3))
        self.assertEqual(needless(FOUR, (ONCE, (2, 0, (3,)), ONCE, ONCE), 1, MADE), (0, 1))

    def test_thirteen_lines_and_sixty(self):
        for lines in (13, 60):
            self.assertEqual(needless(PAIR, (ONCE,) * lines, 3, MADE), tuple(range(lines)))
        program = (ONCE,) * 4 + (BACK,) * 4 + ((2, 0, (1,)),) * 52
        self.assertEqual(needless((3, (1,)), program, 3, ((0, (0, 0)),)), tuple(range(8, 60)))

    def test_by_leaving_out_each(self):
        seen = set()
        for machine, program, many, wishes in proofs(620, 250, 8):
            with self.subTest(machine=machine, program=program, many=many, wishes=wishes):
                found = needless(machine, program, many, wishes)
                self.assertEqual(found, oracle.needless(machine, program, many, wishes))
                seen.add(len(found))
        self.assertGreater(len(seen), 5)


class LeastWithin(Case):
    def test_no_line(self):
        for many in (1, 2, 3):
            self.assertEqual(least_within(PAIR, (), many, ((0, 0), (1, 1))), ((),))

    def test_no_line_is_needed(self):
        self.assertEqual(least_within(PAIR, (ONCE,) * 12, 1, ((0, 0),)), ((),))

    def test_all_lots(self):
        for many in (1, 2, 3):
            wanted = tuple(combinations(range(6), many + 1))
            self.assertEqual(least_within(PAIR, (ONCE,) * 6, many, MADE), wanted)

    def test_all_lines(self):
        for many in (1, 2, 3):
            program = (ONCE,) * (many + 1) + (BACK,) * (many + 1)
            self.assertEqual(least_within(PAIR, program, many, ((0, (0, 0)),)), (tuple(range(2 * many + 2)),))

    def test_one_of_two_ways(self):
        program = ((1, None, (0,)),) * 2 + ((0, 0, (1,)),) * 2 + ((1, 0, (0,)),) + ((1, None, (0,)),) * 2
        self.assertEqual(least_within(PAIR, program, 1, ((1, (0, 0)),)), ((0, 1, 2, 3, 5, 6),))
        program = (ONCE, ONCE, (2, None, (1,)), (1, None, (2,)), ONCE, ONCE)
        wanted = ((0, 1), (0, 4), (0, 5), (1, 4), (1, 5), (4, 5))
        self.assertEqual(least_within((3, (1,)), program, 1, MADE), wanted)

    def test_twelve_lines(self):
        program = tuple(line for line in (ONCE, (0, 0, (1,))) * 3 for _ in range(2))
        self.assertEqual(least_within(PAIR, program, 1, ((0, deep(7)),)), (tuple(range(12)),))
        self.assertEqual(len(least_within(PAIR, (ONCE,) * 12, 3, MADE)), 495)

    def test_thirteen_lines(self):
        self.fails(TooMany, {"most": 12}, least_within, PAIR, (ONCE,) * 13, 1, MADE)
        self.fails(TooMany, {"most": 12}, least_within, PAIR, (ONCE,) * 60, 3, ((0, 0),))
        self.fails(BadProgram, NO_PROOF, least_within, PAIR, (ONCE,) * 13, 1, ((1, 1),))
        self.fails(BadNumber, {}, least_within, PAIR, (ONCE,) * 13, 4, MADE)

    def test_by_all_lots(self):
        seen = set()
        for machine, program, many, wishes in proofs(621, 200, 8):
            with self.subTest(machine=machine, program=program, many=many, wishes=wishes):
                found = least_within(machine, program, many, wishes)
                self.assertEqual(found, oracle.least_within(machine, program, many, wishes))
                seen.add((len(found) > 1, len(found[0]) < len(program)))
        self.assertEqual(len(seen), 3)


class NotProof(Case):
    def test_both(self):
        for function in BOTH:
            for program, wishes in (((), ((0, 1),)), ((ONCE,), MADE), ((ONCE, ONCE, BACK), ((0, (0, 0)),)),
                                    ((ONCE, BACK, ONCE), MADE), ((ONCE,) * 13, ((1, 1),))):
                self.fails(BadProgram, NO_PROOF, function, PAIR, program, 1, wishes)
            self.fails(BadProgram, NO_PROOF, function, PAIR, (ONCE,) * 3, 3, MADE)
            self.fails(BadProgram, NO_PROOF, function, PAIR, (), 3, SEVENTEEN)

    def test_behind_the_errors_of_all_arguments(self):
        for function in BOTH:
            self.fails(BadNumber, {}, function, PAIR, (ONCE,), 0, MADE)
            self.fails(BadWishes, {"index": 1}, function, PAIR, (ONCE,), 1, MADE + ((0, 0),))
            self.fails(BadProgram, {"index": 1}, function, PAIR, (ONCE, None), 0, None)

    def test_just_those_that_are_not(self):
        chance = random.Random(622)
        seen = set()
        for machine, program, many in cases(622, 300, 8):
            try:
                wishes = some_wishes(chance, machine, oracle.ran(machine, program))
                wanted = oracle.is_proof(machine, program, many, wishes)
            except oracle.Deep:
                continue
            seen.add(wanted)
            for function in BOTH:
                if wanted:
                    function(machine, program, many, wishes)
                else:
                    self.fails(BadProgram, NO_PROOF, function, machine, program, many, wishes)
        self.assertEqual(seen, {True, False})

    def test_ahead_of_too_many(self):
        """A loss that makes no deep term already does harm here, so the program isn't proof."""
        for function in BOTH:
            self.fails(BadProgram, NO_PROOF, function, LONE, (OWN,) * 9, 1, ((0, 0),))
            self.fails(BadProgram, NO_PROOF, function, LONE, (OWN,) * 60, 3, ((0, deep(8)),))
            self.fails(BadProgram, NO_PROOF, function, PAIR, (OWN,) * 9 + (BACK,), 1, ((0, 1),))
            for machine, many, program in OVER_LIMIT:
                last = tuple(enumerate(oracle.ran(machine, program)))
                self.fails(BadProgram, NO_PROOF, function, machine, program, many, last)
                self.fails(BadProgram, NO_PROOF, function, machine, program + LEVELLING, many, ((0, 3),))
            program = tuple(line for line in (ONCE, (0, 0, (1,))) * 5 for _ in range(2))
            self.fails(BadProgram, NO_PROOF, function, PAIR, program, 1, ((0, deep(8)),))


class Limits(Case):
    def test_too_deep_a_term(self):
        program = (OWN,) * 8 + (BACK, BACK)
        self.assertIs(is_proof(PAIR, (OWN,) * 7 + (BACK, BACK), 1, ((0, 1),)), True)
        for function in BOTH:
            self.fails(TooMany, {"most": 8}, function, PAIR, program, 1, ((0, 1),))
            self.fails(TooMany, {"most": 8}, function, PAIR, (OWN,) * 8 + (BACK,) * 5, 1, ((0, 1), (1, 1)))
            self.fails(TooMany, {"most": 8}, function, PAIR, (OWN,) * 8, 1, ((1, 1),))

    def test_too_deep_a_term_only_if_a_line_is_lost(self):
        program = (OWN,) * 6 + (BACK, OWN, OWN)
        for function in BOTH:
            self.fails(TooMany, {"most": 8}, function, PAIR, program, 1, ((1, 1),))

    def test_too_deep_a_term_only_if_a_line_is_left_out(self):
        program = (OWN,) * 4 + (BACK, BACK) + (OWN,) * 4
        self.assertEqual(len(outcomes(PAIR, program, 1)), 3)
        self.fails(TooMany, {"most": 8}, is_proof, PAIR, program[:5] + program[6:], 1, ((1, 1),))
        self.fails(TooMany, {"most": 8}, needless, PAIR, program, 1, ((1, 1),))
        self.assertEqual(least_within(PAIR, program, 1, ((1, 1),)), ((),))

    def test_pairs(self):
        for many, machine, program in SPARING[3001]:
            for function in BOTH:
                self.fails(TooMany, {"most": 3000}, function, machine, program, many, KEPT)
                self.fails(TooMany, {"most": 3000}, function, machine, program + LEVELLING, many, ((0, 3), (3, 3)))
        for many, machine, program in SPARING[3000]:
            self.assertTrue(sure_terms(machine, program, many))
            self.fails(TooMany, {"most": 12}, least_within, machine, program, many, KEPT)

    def test_one_pair_less(self):
        many, machine, program = SPARING[3001][0]
        self.assertEqual(needless(machine, program[:-1], many, KEPT), tuple(range(len(program) - 1)))


if __name__ == "__main__":
    unittest.main()
