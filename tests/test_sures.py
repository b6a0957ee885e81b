"""Points 61 and 65: where cells get sure, the core, and how many neighbouring lines may be lost."""

import random
import unittest

from lostlines import sures
from lostlines.errors import BadNumber, BadProgram, BadWishes, TooMany
from lostlines.losses import is_proof, sure_terms
from lostlines.machines import is_gentle, run
from lostlines.sures import core, getting_sure, most_borne
from tests import oracle
from tests.at_limits import SPARING
from tests.case import Case
from tests.samples import (
    AT_LIMIT, FOUR, LEVELLING, LONE, ONCE, OVER_LIMIT, OWN, PAIR, SEVENTEEN, cases, deep, some_machine, some_proof,
    some_wishes,
)

BACK = (0, None, (1,))
MADE = ((1, (0, 0)),)
KEPT = ((3, 3),)


def sure_cases(seed, count, most_lines):
    """Triples (machine, program, many), in whose programs cells often get sure."""
    chance = random.Random(seed)
    found = cases(seed, count, most_lines)
    for _ in range(count):
        machine, many = some_machine(chance), chance.randint(1, 3)
        found.append((machine, some_proof(chance, machine, many, most_lines), many))
    return found


def held_behind(machine, program, many, number):
    """What the cell of a line can hold behind it if it happens, over all losses."""
    found = set()
    for losses in oracle.all_losses(number + 1, many):
        if number not in losses:
            found.add(oracle.ran(machine, oracle.left(program[:number + 1], losses))[program[number][0]])
    return found


class GettingSure(Case):
    def test_defined_in_their_file(self):
        self.are_defined_in(sures, ("getting_sure", "core", "most_borne"))

    def test_no_line(self):
        for many in (1, 2, 3):
            self.assertEqual(getting_sure(FOUR, (), many), ())
            self.assertEqual(core(FOUR, (), many), ())

    def test_at_the_end_of_as_many_lines_as_needed(self):
        for many in (1, 2, 3):
            self.assertEqual(getting_sure(PAIR, (ONCE,) * many, many), ())
            for lines in range(many + 1, 7):
                self.assertEqual(getting_sure(PAIR, (ONCE,) * lines, many), (many,))
                self.assertEqual(core(PAIR, (ONCE,) * lines, many), (ONCE,))

    def test_sixty_lines(self):
        program = ((ONCE,) * 4 + ((1, None, (0,)),) * 4) * 7 + (ONCE,) * 4
        self.assertEqual(getting_sure(PAIR, program, 3), tuple(range(3, 60, 4)))
        self.assertEqual(core(PAIR, program, 3), (ONCE, (1, None, (0,))) * 7 + (ONCE,))

    def test_sure_again_of_what_it_was(self):
        program = (ONCE,) * 2 + ((1, None, (0,)),) + (ONCE,) * 2
        self.assertEqual(getting_sure(PAIR, program, 1), (1, 4))
        self.assertEqual(getting_sure(PAIR, (ONCE,) * 5, 1), (1,))

    def test_a_line_that_changes_nothing(self):
        self.assertEqual(getting_sure(PAIR, (ONCE, ONCE, BACK, ONCE), 1), (1,))
        self.assertEqual(getting_sure(PAIR, ((1, None, (0,)),) * 2 + (BACK,) * 2, 1), (1,))

    def test_of_the_cell_itself(self):
        """A cell that is sure of what it holds at first is sure of it ahead of all lines."""
        program = ((1, None, (0,)),) * 2 + (OWN, BACK, BACK)
        self.assertEqual(getting_sure(PAIR, program, 1), (1, 4))
        self.assertEqual(core(PAIR, program, 1), ((1, None, (0,)), BACK))

    def test_the_last_of_unlike_lines(self):
        machine = (3, (1,))
        program = ((1, None, (0,)),) * 2 + ((2, 0, (0,)), (2, 0, (1,)), (2, 0, (0,)))
        self.assertEqual(core(machine, program, 1), ((1, None, (0,)), (2, 0, (1,))))
        program = ((1, None, (0,)),) * 2 + ((0, 0, (0,)), (0, 0, (1,)))
        self.assertEqual(getting_sure(PAIR, program, 1), (1, 3))
        self.assertEqual(core(PAIR, program, 1), ((1, None, (0,)), (0, 0, (1,))))

    def test_lines_that_are_not_gentle(self):
        for many in (1, 2, 3):
            self.assertEqual(getting_sure(LONE, (OWN,) * 7, many), ())
            self.assertEqual(getting_sure(PAIR, ((1, 1, (0, 1)),) * 7, many), ())

    def test_as_the_long_way(self):
        for machine, program, many in sure_cases(61, 150, 8):
            try:
                moments = oracle.sure_terms(machine, program, many)
            except oracle.Deep:
                self.fails(TooMany, {"most": 8}, getting_sure, machine, program, many)
                self.fails(TooMany, {"most": 8}, core, machine, program, many)
                continue
            wanted = tuple(
                number for number, (ahead, behind) in enumerate(zip(moments, moments[1:]))
                if any(after is not None and after != before for before, after in zip(ahead, behind)))
            self.assertEqual(getting_sure(machine, program, many), wanted)
            self.assertEqual(core(machine, program, many), tuple(program[number] for number in wanted))

    def test_limits(self):
        for function in (getting_sure, core):
            self.fails(TooMany, {"most": 8}, function, PAIR, (OWN,) * 8 + (BACK,), 1)
            self.fails(TooMany, {"most": 8}, function, PAIR, (OWN,) * 6 + (BACK, OWN, OWN), 1)
            for machine, many, program in AT_LIMIT:
                self.assertLess(len(function(machine, program, many)), len(program))
            for machine, many, program in OVER_LIMIT:
                function(machine, program[:-1], many)
                self.fails(TooMany, {"most": 3000}, function, machine, program, many)
                self.fails(TooMany, {"most": 3000}, function, machine, program + LEVELLING, many)

    def test_errors(self):
        for function in (getting_sure, core):
            self.fails(BadNumber, {}, function, PAIR, (OWN,) * 9, 0)
            self.fails(BadProgram, {"index": 0}, function, PAIR, (None,), 0)


class Core(Case):
    def test_what_the_document_says_of_it(self):
        tried = 0
        for machine, program, many in sure_cases(62, 250, 9):
            try:
                moments = sure_terms(machine, program, many)
            except TooMany:
                continue
            with self.subTest(machine=machine, program=program, many=many):
                lines = core(machine, program, many)
                tried += len(lines)
                self.assertIs(is_gentle(machine, lines), True)
                for number in getting_sure(machine, program, many):
                    self.check_line(machine, program, many, number, moments[number + 1])
                for held, sure in zip(run(machine, lines), moments[-1]):
                    self.assertIn(sure, (None, held))
        self.assertGreater(tried, 150)

    def check_line(self, machine, program, many, number, sure):
        """It stands at the end of many + 1 neighbouring lines that set its cell, to the term it is sure of."""
        cell = program[number][0]
        self.assertGreaterEqual(number, many)
        for at in range(number - many, number + 1):
            self.assertEqual(program[at][0], cell)
            self.assertEqual(held_behind(machine, program, many, at), {sure[cell]})

    def test_fewer_lines_than_a_proof_program_has(self):
        """The lines of a proof program are at least many + 1 times those of its core, which do the same."""
        tried = 0
        chance = random.Random(63)
        for machine, program, many in sure_cases(63, 250, 9):
            try:
                sure = sure_terms(machine, program, many)[-1]
                wishes = tuple((cell, term) for cell, term in enumerate(sure) if term is not None)
                lines = core(machine, program, many)
            except TooMany:
                continue
            if wishes and chance.randrange(2) == 0:
                tried += 1
                self.assertLessEqual((many + 1) * len(lines), len(program))
                self.assertTrue(oracle.is_fulfilled(run(machine, lines), wishes))
        self.assertGreater(tried, 100)


class MostBorne(Case):
    def test_no_line(self):
        self.assertEqual(most_borne(PAIR, (), ((0, 0), (1, 1))), 3)
        self.assertIsNone(most_borne(PAIR, (), ((0, 1),)))

    def test_none_if_not_fulfilled_with_no_line_lost(self):
        self.assertIsNone(most_borne(PAIR, (ONCE,), ((1, 1),)))
        self.assertIsNone(most_borne(PAIR, (ONCE,) * 4, ((0, 0), (1, 1))))
        self.assertIsNone(most_borne(LONE, (OWN, OWN), ((0, (0, 0)),)))
        self.assertIsNone(most_borne(PAIR, (OWN, BACK), ((0, (0, 0)),)))

    def test_each_number(self):
        for lines in range(1, 8):
            self.assertEqual(most_borne(PAIR, (ONCE,) * lines, MADE), min(lines - 1, 3))
            self.assertEqual(most_borne(PAIR, (ONCE,) * lines, ((0, 0),)), 3)
        self.assertEqual(most_borne(PAIR, (ONCE,) * 60, MADE), 3)
        self.assertEqual(most_borne(LONE, (OWN, OWN), ((0, (0, (0, 0))),)), 0)

    def test_the_least_of_several(self):
        program = (ONCE,) * 3 + (BACK,) * 2
        self.assertEqual(most_borne(PAIR, program, MADE), 2)
        self.assertEqual(most_borne(PAIR, program, ((0, (0, 0)),)), 1)
        self.assertEqual(most_borne(PAIR, program + (BACK,), ((0, (0, 0)), (1, (0, 0)))), 2)
        self.assertEqual(most_borne(PAIR, program[:4], ((0, (0, 0)), (1, (0, 0)))), 0)

    def test_as_the_long_way(self):
        chance = random.Random(65)
        seen = set()
        for machine, program, _ in sure_cases(65, 250, 8):
            try:
                wishes = some_wishes(chance, machine, oracle.ran(machine, program))
                answers = [oracle.is_fulfilled(oracle.ran(machine, program), wishes)]
                answers += [oracle.is_proof(machine, program, many, wishes) for many in (1, 2, 3)]
            except oracle.Deep:
                continue
            wanted = max((many for many in range(4) if answers[many]), default=None)
            seen.add(wanted)
            self.assertEqual(most_borne(machine, program, wishes), wanted)
        self.assertEqual(seen, {None, 0, 1, 2, 3})

    def test_too_deep_a_term(self):
        self.fails(TooMany, {"most": 8}, most_borne, LONE, (OWN,) * 8, ((0, 0),))
        self.fails(TooMany, {"most": 8}, most_borne, PAIR, (OWN,) * 8 + (BACK,), ((0, 1),))
        self.fails(TooMany, {"most": 8}, most_borne, PAIR, (OWN,) * 6 + (BACK, OWN, OWN), ((1, 1),))
        self.assertEqual(most_borne(LONE, (OWN,) * 7, ((0, deep(8)),)), 0)

    def test_too_deep_a_term_only_if_neighbours_are_lost(self):
        """Losing one line already does harm, so it is no matter what comes of losing two; else it is."""
        program = (OWN,) * 6 + (BACK, BACK, OWN, OWN) + (ONCE,)
        self.assertEqual(most_borne(PAIR, program, ((1, (0, (0, (0, 1)))),)), 0)
        self.fails(TooMany, {"most": 8}, most_borne, PAIR, program[:-1], ((1, 1),))

    def test_no_more_is_asked_than_tells(self):
        self.assertIsNone(most_borne(PAIR, (OWN,) * 6 + (BACK, OWN, OWN), ((0, 0),)))

    def test_pairs(self):
        for many, machine, program in SPARING[3000]:
            self.assertEqual(is_proof(machine, program, many, KEPT), True)
        many, machine, program = SPARING[3000][1]
        self.assertEqual(most_borne(machine, program, KEPT), 3)
        for many, machine, program in SPARING[3001]:
            self.fails(TooMany, {"most": 3000}, most_borne, machine, program, KEPT)
        many, machine, program = SPARING[3001][1]
        self.assertEqual(most_borne(machine, program[:-1], KEPT), 3)
        for machine, many, program in OVER_LIMIT:
            last = tuple(enumerate(oracle.ran(machine, program)))
            self.assertEqual(most_borne(machine, program, last), 0)

    def test_errors(self):
        self.fails(BadWishes, {"index": None}, most_borne, LONE, (OWN,) * 9, ())
        self.fails(BadProgram, {"index": 1}, most_borne, LONE, (OWN, None), ())
        self.assertIsNone(most_borne(PAIR, (), SEVENTEEN))


if __name__ == "__main__":
    unittest.main()
