"""Points 4 and 5, without wishes: run_lost, outcomes and sure_terms."""

import unittest

from lostlines import losses
from lostlines.errors import BadLosses, TooMany
from lostlines.losses import outcomes, run_lost, sure_terms
from tests import oracle
from tests.samples import AT_LIMIT, FOUR, LEVELLING, LONE, ONCE, OVER_LIMIT, OWN, PAIR, cases, deep

BACK = (0, None, (1,))


class Case(unittest.TestCase):
    def too_many(self, most, function, *arguments):
        with self.assertRaises(TooMany) as caught:
            function(*arguments)
        self.assertEqual(caught.exception.most, most)

    def against_the_long_way(self, function, slow, seed, count, most_lines):
        for machine, program, many in cases(seed, count, most_lines):
            with self.subTest(machine=machine, program=program, many=many):
                try:
                    wanted = slow(machine, program, many)
                except oracle.Deep:
                    self.too_many(8, function, machine, program, many)
                    continue
                self.assertEqual(function(machine, program, many), wanted)


class RunLost(Case):
    def test_defined_in_their_file(self):
        names = ("run_lost", "outcomes", "sure_terms", "is_proof", "harm", "shows_harm", "is_repeat_proof")
        for name in names:
            self.assertEqual(getattr(losses, name).__module__, "lostlines.losses")

    def test_no_line(self):
        self.assertEqual(run_lost(FOUR, (), 1, ()), (0, 1, 2, 3))

    def test_nothing_lost(self):
        self.assertEqual(run_lost(PAIR, (ONCE, BACK), 1, ()), ((0, 0), (0, 0)))

    def test_first_and_last(self):
        self.assertEqual(run_lost(PAIR, (ONCE, BACK), 1, (0,)), (1, 1))
        self.assertEqual(run_lost(PAIR, (ONCE, BACK), 1, (1,)), (0, (0, 0)))
        self.assertEqual(run_lost(PAIR, (ONCE, BACK), 2, (0, 1)), (0, 1))

    def test_one_of_alike_lines(self):
        self.assertEqual(run_lost(LONE, (OWN,) * 5, 1, (0, 2, 4)), (deep(3),))

    def test_as_many_neighbours_as_can_be(self):
        program = (OWN,) * 9
        for many in (1, 2, 3):
            runs = tuple(range(many)) + tuple(range(many + 1, 2 * many + 1))
            self.assertEqual(run_lost(LONE, program[:8], many, runs), (deep(9 - 2 * many),))
            for first in range(9 - many):
                with self.assertRaises(BadLosses):
                    run_lost(LONE, program, many, tuple(range(first, first + many + 1)))

    def test_many_neighbours_behind_a_gap(self):
        with self.assertRaises(BadLosses):
            run_lost(LONE, (OWN,) * 9, 2, (0, 2, 3, 4))
        with self.assertRaises(BadLosses):
            run_lost(LONE, (OWN,) * 9, 3, (0, 1, 2, 4, 5, 6, 7))
        self.assertEqual(run_lost(LONE, (OWN,) * 9, 2, (0, 1, 3, 4, 6, 7)), (deep(4),))

    def test_sixty_lines(self):
        program = (ONCE, BACK) * 30
        self.assertEqual(run_lost(PAIR, program, 1, tuple(range(0, 60, 2))), (1, 1))
        self.assertEqual(run_lost(PAIR, program, 1, tuple(range(1, 60, 2))), (0, (0, 0)))

    def test_deep_only_if_it_happens(self):
        self.assertEqual(run_lost(LONE, (OWN,) * 8, 1, (3,)), (deep(8),))
        self.too_many(8, run_lost, LONE, (OWN,) * 8, 1, ())
        self.too_many(8, run_lost, LONE, (OWN,) * 9, 1, (8,))
        self.too_many(8, run_lost, PAIR, (OWN,) * 9 + (BACK,), 1, (0,))

    def test_as_the_long_way(self):
        for machine, program, many in cases(2, 80, 6):
            for gone in oracle.all_losses(len(program), many):
                wanted = oracle.ran(machine, oracle.left(program, gone))
                self.assertEqual(run_lost(machine, program, many, gone), wanted)


class Outcomes(Case):
    def test_no_line(self):
        self.assertEqual(outcomes(PAIR, (), 3), ((0, 1),))

    def test_alike_outcomes_come_once(self):
        self.assertEqual(outcomes(PAIR, (ONCE, ONCE), 1), ((0, (0, 0)),))
        self.assertEqual(outcomes(PAIR, (ONCE, ONCE), 2), ((0, 1), (0, (0, 0))))

    def test_neighbours_are_counted_anew(self):
        self.assertEqual(outcomes(LONE, (OWN,) * 3, 1), ((deep(2),), (deep(3),), (deep(4),)))
        self.assertEqual(outcomes(LONE, (OWN,) * 3, 2), ((deep(2),), (deep(3),), (deep(4),)))
        self.assertEqual(outcomes(LONE, (OWN,) * 3, 3), ((0,), (deep(2),), (deep(3),), (deep(4),)))
        self.assertEqual(outcomes(LONE, (OWN,) * 7, 1), tuple((deep(depth),) for depth in range(4, 9)))

    def test_order_is_that_of_the_texts(self):
        program = ((0, 1, (2, 1)), (0, 0, (0,)), (1, 2, (0, 0)), (2, None, (1,)))
        found = outcomes(FOUR, program, 2)
        self.assertEqual(found, oracle.outcomes(FOUR, program, 2))
        texts = [[oracle.text(term) for term in holds] for holds in found]
        self.assertEqual(texts, sorted(texts))
        self.assertEqual(len(texts), 13)

    def test_cells_come_ahead_of_functions(self):
        found = outcomes((3, (1,)), ((0, 0, (1,)), (0, None, (2,))), 2)
        self.assertEqual(found, ((0, 1, 2), (2, 1, 2), ((0, 1), 1, 2)))

    def test_sixty_lines(self):
        self.assertEqual(outcomes(PAIR, (ONCE,) * 60, 3), ((0, (0, 0)),))
        wanted = ((1, 1), ((0, 0), (0, 0)), ((0, 1), (0, 1)), (deep(3), deep(3)))
        self.assertEqual(outcomes(PAIR, (ONCE, BACK) * 2 + (BACK,) * 56, 1), wanted)

    def test_deeper(self):
        self.too_many(8, outcomes, LONE, (OWN,) * 8, 3)
        self.too_many(8, outcomes, PAIR, (OWN,) * 8 + (BACK,) * 4, 1)
        self.assertEqual(len(outcomes(LONE, (OWN,) * 7, 3)), 7)

    def test_deeper_only_if_a_line_is_lost(self):
        program = (OWN,) * 6 + (BACK, OWN, OWN)
        self.assertEqual(len(oracle.ran(PAIR, program)), 2)
        self.too_many(8, outcomes, PAIR, program, 1)

    def test_as_many_pairs_as_can_be(self):
        for machine, many, program in AT_LIMIT:
            found = outcomes(machine, program, many)
            texts = [[oracle.text(term) for term in holds] for holds in found]
            self.assertEqual(texts, sorted(texts))
            self.assertEqual(len({tuple(row) for row in texts}), len(found))
            self.assertTrue(2900 < len(found) <= 3000)

    def test_one_pair_more(self):
        for machine, many, program in OVER_LIMIT:
            self.too_many(3000, outcomes, machine, program, many)
            self.assertTrue(outcomes(machine, program[:-1], many))

    def test_more_pairs_on_the_way(self):
        for machine, many, program in OVER_LIMIT:
            self.too_many(3000, outcomes, machine, program + LEVELLING, many)

    def test_as_the_long_way(self):
        self.against_the_long_way(outcomes, oracle.outcomes, 3, 300, 7)


class SureTerms(Case):
    def test_no_line(self):
        self.assertEqual(sure_terms(FOUR, (), 2), ((0, 1, 2, 3),))

    def test_a_term_that_is_cell_zero(self):
        self.assertEqual(sure_terms(PAIR, ((1, None, (0,)),) * 2, 1), ((0, 1), (0, None), (0, 0)))

    def test_as_many_lines_as_needed(self):
        for many in (1, 2, 3):
            wanted = ((0, 1),) + ((0, None),) * many + ((0, (0, 0)),)
            self.assertEqual(sure_terms(PAIR, (ONCE,) * (many + 1), many), wanted)

    def test_a_line_that_reads_its_own_cell(self):
        self.assertEqual(sure_terms(LONE, (OWN,) * 3, 1), ((0,), (None,), (None,), (None,)))

    def test_lines_that_change_nothing(self):
        program = (ONCE, ONCE, ONCE, (1, 0, (0,)), (0, None, (1,)), (1, None, (0,)))
        wanted = ((0, 1), (0, None)) + ((0, (0, 0)),) * 3 + ((None, (0, 0)), (None, None))
        self.assertEqual(sure_terms(PAIR, program, 1), wanted)

    def test_neighbours_that_were_lost(self):
        program = ((0, None, (1,)), (0, None, (1,)), (2, None, (0,)), (2, None, (0,)))
        wanted = ((0, 1, 2), (None, 1, 2), (1, 1, 2), (1, 1, None), (1, 1, 1))
        self.assertEqual(sure_terms((3, (1,)), program, 1), wanted)
        wanted = ((0, 1, 2), (None, 1, 2), (None, 1, 2), (None, 1, None), (None, 1, None))
        self.assertEqual(sure_terms((3, (1,)), program, 2), wanted)

    def test_sixty_lines(self):
        found = sure_terms(PAIR, (ONCE,) * 60, 3)
        self.assertEqual(len(found), 61)
        self.assertEqual(found[4:], ((0, (0, 0)),) * 57)

    def test_limits(self):
        self.too_many(8, sure_terms, PAIR, (OWN,) * 8 + (BACK,), 1)
        self.assertEqual(len(sure_terms(PAIR, (OWN,) * 7 + (BACK,), 1)), 9)
        for machine, many, program in AT_LIMIT:
            self.assertEqual(len(sure_terms(machine, program, many)), len(program) + 1)
        for machine, many, program in OVER_LIMIT:
            self.too_many(3000, sure_terms, machine, program, many)
            self.too_many(3000, sure_terms, machine, program + LEVELLING, many)

    def test_as_the_long_way(self):
        self.against_the_long_way(sure_terms, oracle.sure_terms, 4, 300, 6)


if __name__ == "__main__":
    unittest.main()
