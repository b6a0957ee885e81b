"""Point 60: how few lines a proof program has."""

import random
import unittest
from itertools import product

from lostlines import leasts
from lostlines.errors import BadMachine, BadNumber, BadWishes, TooMany
from lostlines.leasts import least_proof_lines, shows_least_proof
from lostlines.losses import is_proof, outcomes
from lostlines.searches import least_gentle_lines, proof_program, shortest_gentle
from tests import oracle
from tests.case import Case
from tests.samples import FOUR, LONE, ODD_VALUES, ONCE, OVER_LIMIT, OWN, PAIR, SEVENTEEN, SIXTEEN, deep

BACK = (0, None, (1,))
MADE = ((1, (0, 0)),)
OWN_WISH = ((0, (0, 0)),)

# Machines and many, and of how many lines all programs are looked at.
SMALL = ((LONE, 1, 5), ((1, (1, 2)), 2, 4), ((2, (1,)), 1, 4), ((2, (2,)), 1, 2), ((2, (1,)), 2, 3), ((3, (1,)), 1, 2))


class LeastProofLines(Case):
    def test_defined_in_their_file(self):
        self.are_defined_in(leasts, ("least_proof_lines", "shows_least_proof"))

    def test_many_and_one_times(self):
        for many in (1, 2, 3):
            self.assertEqual(least_proof_lines(PAIR, many, MADE), many + 1)
            self.assertEqual(least_proof_lines(PAIR, many, OWN_WISH), 2 * (many + 1))
            self.assertEqual(least_proof_lines(FOUR, many, ((3, (1, (0, 0), 1)),)), 2 * (many + 1))

    def test_wishes_that_the_empty_program_fulfils(self):
        for many in (1, 2, 3):
            for wishes in (((0, 0),), ((1, 1),), ((0, 0), (1, 1))):
                self.assertEqual(least_proof_lines(PAIR, many, wishes), 0)
                self.assertIs(shows_least_proof(PAIR, many, wishes, ()), True)
                self.assertIs(shows_least_proof(PAIR, many, wishes, None), False)
                self.assertIs(shows_least_proof(PAIR, many, wishes, (ONCE,)), False)
                self.assertIs(shows_least_proof(PAIR, many, wishes, []), False)

    def test_wishes_that_no_gentle_program_fulfils(self):
        for machine, wishes in ((LONE, OWN_WISH), (PAIR, ((0, 1), (1, 0))), (PAIR, ((0, (0, 0)), (1, (0, 1))))):
            for many in (1, 2, 3):
                self.assertIsNone(least_proof_lines(machine, many, wishes))
                self.assertIs(shows_least_proof(machine, many, wishes, None), True)
                for value in (*ODD_VALUES, (), (OWN,), (OWN, OWN)):
                    self.assertIs(shows_least_proof(machine, many, wishes, value), value is None)

    def test_as_least_gentle_lines(self):
        chance = random.Random(60)
        for machine in (LONE, PAIR, (3, (1,)), (3, (1, 2))):
            terms = oracle.terms(machine, 2)
            for _ in range(40):
                cells = sorted(chance.sample(range(machine[0]), chance.randint(1, machine[0])))
                wishes = tuple((cell, chance.choice(terms)) for cell in cells)
                least = least_gentle_lines(machine, wishes)
                for many in (1, 2, 3):
                    wanted = None if least is None else (many + 1) * least
                    self.assertEqual(least_proof_lines(machine, many, wishes), wanted)

    def test_against_all_programs(self):
        chance = random.Random(61)
        for machine, many, most in SMALL:
            programs = oracle.all_programs(oracle.all_lines(machine), most)
            sure = [oracle.sure_terms(machine, program, many)[-1] for program in programs]
            fewest = {}
            for program, terms in zip(programs, sure):
                for flags in product((False, True), repeat=machine[0]):
                    wishes = tuple((cell, terms[cell]) for cell in range(machine[0]) if flags[cell])
                    if wishes and all(term is not None for _, term in wishes):
                        fewest.setdefault(wishes, len(program))
            self.assertGreater(len(fewest), 0)
            for wishes, lines in fewest.items():
                self.assertEqual(least_proof_lines(machine, many, wishes), lines)
                for at, program in enumerate(programs):
                    right = all(sure[at][cell] == term for cell, term in wishes)
                    if right and len(program) == lines or chance.randrange(30) == 0:
                        wanted = right and len(program) == lines
                        self.assertIs(shows_least_proof(machine, many, wishes, program), wanted)
            for cell, term in product(range(machine[0]), oracle.terms(machine, 3)):
                least = least_proof_lines(machine, many, ((cell, term),))
                if least is not None and least <= most:
                    self.assertEqual(fewest[((cell, term),)], least)
                else:
                    self.assertNotIn(((cell, term),), fewest)


class ShowsLeastProof(Case):
    def test_any_of_several(self):
        for program, wanted in (
                ((ONCE, ONCE, BACK, BACK), True), ((ONCE, ONCE, (0, None, (1,)), BACK), True),
                (((1, None, (0,)),) * 2 + ((0, 0, (1,)),) * 2, True), ((ONCE, BACK) * 2, False),
                ((ONCE, BACK, BACK, ONCE), False), ((ONCE, ONCE, BACK), False), ((ONCE, ONCE, BACK, BACK, BACK), False),
                ((OWN,), False), ((OWN,) * 4, False), ((ONCE,) * 3 + (BACK,), False)):
            self.assertIs(shows_least_proof(PAIR, 1, OWN_WISH, program), wanted)

    def test_unlike_lines_to_one_term(self):
        """A copy of a cell that holds the same does as well as the line itself."""
        program = (ONCE,) * 2 + ((2, None, (1,)), (2, 0, (0,)))
        self.assertIs(shows_least_proof((3, (1,)), 1, ((1, (0, 0)), (2, (0, 0))), program), True)
        self.assertIs(shows_least_proof((3, (1,)), 1, ((1, (0, 0)), (2, 0)), program), False)

    def test_what_is_made(self):
        for many in (1, 2, 3):
            for wishes in (MADE, OWN_WISH, ((0, deep(4)), (1, deep(4)))):
                program = proof_program(PAIR, many, wishes)
                self.assertIs(shows_least_proof(PAIR, many, wishes, program), True)
                self.assertIs(shows_least_proof(PAIR, many, wishes, shortest_gentle(PAIR, wishes)), False)
                self.assertIs(shows_least_proof(PAIR, many, wishes, list(program)), False)
                self.assertIs(shows_least_proof(PAIR, many, wishes, program + program[-1:]), False)
                self.assertIs(shows_least_proof(PAIR, many, wishes, None), False)
                if many < 3:
                    self.assertIs(shows_least_proof(PAIR, many + 1, wishes, program), False)

    def test_any_value(self):
        for value in (*ODD_VALUES, (ONCE,), (ONCE, None), (ONCE, 0), (ONCE, [1, 0, (0,)]), (ONCE, (1, 0, [0])),
                      (ONCE, (True, 0, (0,))), (ONCE, (1, False, (0,))), (ONCE, (2, 0, (0,))), [ONCE, ONCE],
                      {0: ONCE, 1: ONCE}, "ab", (ONCE, (1, None, (1,))), (ONCE, ONCE, ONCE)):
            self.assertIs(shows_least_proof(PAIR, 1, MADE, value), False)

    def test_too_many_lines(self):
        for lines in (3, 60, 61, 200):
            self.assertIs(shows_least_proof(PAIR, 1, MADE, (ONCE,) * lines), False)
            self.assertIs(shows_least_proof(LONE, 1, OWN_WISH, (OWN,) * lines), False)

    def test_more_than_sixty_lines(self):
        """A program has any number of lines; the value is told to be one even if no other argument may have so many."""
        wishes = ((0, deep(8)), (1, deep(8, 1)), (2, 0), (3, 0))
        gentle = (
            (2, None, (0,)), (0, 0, (1,)), (1, 0, (0,)), (0, 0, (1,)), (1, 0, (0,)), (0, 0, (1,)), (3, 0, (2,)),
            (1, 0, (3,)), (3, 0, (1,)), (1, 0, (3,)), (3, 0, (1,)), (1, 0, (3,)), (3, 0, (0,)), (0, 0, (1,)),
            (1, 0, (3,)), (3, None, (2,)))
        program = tuple(line for line in gentle for _ in range(4))
        self.assertEqual(least_proof_lines((4, (1,)), 3, wishes), 64)
        self.assertIs(shows_least_proof((4, (1,)), 3, wishes, program), True)

    def test_too_deep_a_term_with_some_losses(self):
        wishes = ((0, deep(5)),)
        self.assertEqual(least_proof_lines(PAIR, 1, wishes), 8)
        self.fails(TooMany, {"most": 8}, outcomes, PAIR, (OWN,) * 8, 1)
        self.assertIs(shows_least_proof(PAIR, 1, wishes, (OWN,) * 8), False)
        wishes = ((0, deep(6)), (1, deep(6)))
        self.assertEqual(least_proof_lines(PAIR, 1, wishes), 12)
        program = (OWN,) * 6 + (BACK, OWN, OWN) + (ONCE,) * 3
        self.assertEqual(len(oracle.ran(PAIR, program)), 2)
        self.fails(TooMany, {"most": 8}, is_proof, PAIR, program, 1, wishes)
        self.assertIs(shows_least_proof(PAIR, 1, wishes, program), False)

    def test_more_pairs(self):
        machine, many, program = OVER_LIMIT[1]
        wishes = ((0, deep(7)),)
        self.assertEqual(least_proof_lines(machine, many, wishes), len(program))
        self.fails(TooMany, {"most": 3000}, is_proof, machine, program, many, wishes)
        self.assertIs(shows_least_proof(machine, many, wishes, program), False)


class Errors(Case):
    def test_parts(self):
        for many in (1, 2, 3):
            self.fails(TooMany, {"most": 16}, least_proof_lines, PAIR, many, SEVENTEEN)
            for value in (*ODD_VALUES, (ONCE,) * 14):
                self.fails(TooMany, {"most": 16}, shows_least_proof, PAIR, many, SEVENTEEN, value)
            self.assertIsNone(least_proof_lines(PAIR, many, SIXTEEN))
            self.assertIs(shows_least_proof(PAIR, many, SIXTEEN, None), True)
            self.assertEqual(least_proof_lines((3, (1, 2)), many, SIXTEEN), 14 * (many + 1))

    def test_ahead_of_parts(self):
        for function, more in ((least_proof_lines, ()), (shows_least_proof, (None,))):
            self.fails(BadNumber, {}, function, PAIR, 4, SEVENTEEN, *more)
            self.fails(BadWishes, {"index": 2}, function, PAIR, 1, SEVENTEEN + ((1, 0),), *more)
            self.fails(BadMachine, {"part": "cells"}, function, (5, 1), 4, SEVENTEEN, *more)
            self.fails(BadNumber, {}, function, PAIR, True, (), *more)


if __name__ == "__main__":
    unittest.main()
