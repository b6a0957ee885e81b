"""Points 6 to 9: the shortest programs, programs that are proof, a spare cell, the least cells."""

import random
import unittest
from itertools import product

from lostlines import searches
from lostlines.errors import BadMachine, BadWishes, NoProgram, TooMany
from lostlines.losses import is_proof, is_repeat_proof
from lostlines.machines import is_gentle, run
from lostlines.searches import (
    can_be_proof, least_cells, least_gentle_lines, least_lines, proof_program, proofed, shortest, shortest_gentle,
    shows_shortest, shows_shortest_gentle, with_spare,
)
from tests import oracle
from tests.samples import FOUR, LONE, ODD_VALUES, ONCE, OWN, PAIR, SEVENTEEN, cases, deep

NAMES = (
    "shortest", "shortest_gentle", "least_lines", "least_gentle_lines", "shows_shortest", "shows_shortest_gentle",
    "can_be_proof", "proofed", "proof_program", "with_spare", "least_cells",
)
OWN_WISH = ((0, (0, 0)),)

# Machines, and how deep the terms are that all wishes are made of in the tests against all programs.
SMALL = ((LONE, 4), ((1, (2,)), 3), ((2, (1,)), 4), ((2, (2,)), 3), (PAIR, 3), ((3, (1,)), 3), ((3, (2,)), 2))


def some_wishes_of(chance, machine, terms):
    """Wishes of any cells, each for any of the terms."""
    cells = chance.sample(range(machine[0]), chance.randint(1, machine[0]))
    return tuple((cell, chance.choice(terms)) for cell in sorted(cells))


class Case(unittest.TestCase):
    def too_many(self, most, function, *arguments):
        with self.assertRaises(TooMany) as caught:
            function(*arguments)
        self.assertEqual(caught.exception.most, most)

    def check_shortest(self, machine, wishes, least, least_gentle):
        """All functions of point 6, and can_be_proof, agree with these numbers of lines."""
        self.assertEqual(least_lines(machine, wishes), least)
        self.assertEqual(least_gentle_lines(machine, wishes), least_gentle)
        self.assertIs(can_be_proof(machine, wishes), least_gentle is not None)
        program, gentle = shortest(machine, wishes), shortest_gentle(machine, wishes)
        self.check_program(machine, wishes, program, least)
        self.check_program(machine, wishes, gentle, least_gentle)
        self.assertIs(shows_shortest(machine, wishes, program), True)
        self.assertIs(shows_shortest_gentle(machine, wishes, gentle), True)
        self.assertIs(shows_shortest(machine, wishes, gentle), least == least_gentle)
        if gentle is not None:
            self.assertIs(is_gentle(machine, gentle), True)

    def check_program(self, machine, wishes, program, lines):
        if lines is None:
            self.assertIsNone(program)
        else:
            self.assertIs(program.__class__, tuple)
            self.assertEqual(len(program), lines)
            self.assertTrue(oracle.is_fulfilled(run(machine, program), wishes))


class Shortest(Case):
    def test_defined_in_their_file(self):
        for name in NAMES:
            self.assertEqual(getattr(searches, name).__module__, "lostlines.searches")

    def test_the_empty_program(self):
        for machine in (LONE, PAIR, FOUR):
            wishes = tuple((cell, cell) for cell in range(machine[0]))
            for some in (wishes, wishes[:1], wishes[-1:]):
                self.check_shortest(machine, some, 0, 0)
                self.assertEqual(shortest(machine, some), ())
                self.assertIs(shows_shortest(machine, some, ()), True)

    def test_no_program(self):
        self.check_shortest(PAIR, ((0, 1), (1, 0)), None, None)
        self.check_shortest(LONE, ((0, (0, 0)),), 1, None)
        self.check_shortest((1, (1, 2)), ((0, (1, 0, (0, 0))),), None, None)
        self.check_shortest(FOUR, tuple((cell, (cell + 1) - cell // 3 * 4) for cell in range(4)), None, None)
        for wishes in (((0, 1), (1, 0)), ((0, (0, 1)), (1, 0))):
            self.assertIs(shows_shortest(PAIR, wishes, None), True)
            self.assertIs(shows_shortest(PAIR, wishes, ()), False)

    def test_only_a_program_that_is_not_gentle(self):
        wishes = ((0, (0, 0)), (1, (0, 1)))
        self.check_shortest(PAIR, wishes, 2, None)
        self.assertIs(shows_shortest_gentle(PAIR, wishes, shortest(PAIR, wishes)), False)
        self.assertIs(shows_shortest_gentle(PAIR, wishes, None), True)
        self.assertIs(shows_shortest(PAIR, wishes, None), False)
        self.check_shortest((3, (1, 2)), wishes, 2, 4)
        self.check_shortest(FOUR, tuple((cell, (0, cell)) for cell in range(4)), 4, None)

    def test_gentle_lines_may_be_more(self):
        self.check_shortest(PAIR, ((0, (0, 0)),), 1, 2)
        self.check_shortest(PAIR, ((0, (1, 0, 1)),), 1, None)
        self.check_shortest((3, (1, 2)), ((0, (1, 0, 1)),), 1, 2)
        self.check_shortest(PAIR, ((1, (1, 0, 0)),), 1, 1)
        self.check_shortest(PAIR, ((1, (1, (0, 0), (0, 0))),), 2, 3)

    def test_a_term_that_two_cells_shall_hold(self):
        self.check_shortest(PAIR, ((0, (0, 0)), (1, (0, 0))), 2, 2)
        self.check_shortest(PAIR, ((0, (0, 1)), (1, (0, 1))), 2, 2)
        self.check_shortest(FOUR, tuple((cell, (0, 0)) for cell in range(4)), 4, 4)

    def test_a_deep_wish(self):
        self.check_shortest(LONE, ((0, deep(8)),), 7, None)
        self.check_shortest(PAIR, ((0, deep(8)),), 7, 8)
        self.check_shortest(PAIR, ((1, deep(8)),), 7, 7)
        self.check_shortest(PAIR, ((0, deep(8)), (1, deep(8))), 8, 8)

    def test_swapped_cells(self):
        self.check_shortest((3, (1,)), ((0, 1), (1, 0)), 3, 3)
        self.check_shortest(FOUR, ((0, 1), (1, 0), (2, 2)), 3, 3)
        self.check_shortest(FOUR, ((0, 1), (1, 0), (2, 2), (3, 3)), None, None)
        self.check_shortest(FOUR, ((0, 1), (1, 0), (2, 3)), 4, 4)

    def test_all_programs_by_their_lengths(self):
        chance = random.Random(7)
        for machine, deepest in SMALL:
            lengths = oracle.lengths(machine, oracle.all_lines(machine), deepest)
            gentle = oracle.lengths(machine, oracle.gentle_lines(machine), deepest)
            terms = oracle.terms(machine, deepest)
            for _ in range(60):
                for wishes in (some_wishes_of(chance, machine, terms),
                               tuple(enumerate(chance.choice(list(lengths)))),
                               tuple(enumerate(chance.choice(list(gentle))))):
                    with self.subTest(machine=machine, wishes=wishes):
                        found = oracle.least(lengths, wishes), oracle.least(gentle, wishes)
                        self.check_shortest(machine, wishes, *found)


class ShowsShortest(Case):
    def test_all_programs_of_a_few_lines(self):
        for machine, lines in ((LONE, 3), (PAIR, 2), ((2, (1,)), 4), ((3, (1,)), 2), ((1, (1, 2)), 4)):
            programs = oracle.all_programs(oracle.all_lines(machine), lines)
            held = [oracle.ran(machine, program) for program in programs]
            for at in range(0, len(programs), max(1, len(programs) // 6)):
                wishes = tuple(enumerate(held[at]))[-2:]
                fits = [len(program) for program, holds in zip(programs, held) if oracle.is_fulfilled(holds, wishes)]
                mild = [len(program) for program, holds in zip(programs, held)
                        if oracle.is_fulfilled(holds, wishes) and is_gentle(machine, program)]
                for program, holds in zip(programs, held):
                    right = oracle.is_fulfilled(holds, wishes)
                    self.assertIs(shows_shortest(machine, wishes, program), right and len(program) == min(fits))
                    if mild:
                        wanted = right and is_gentle(machine, program) and len(program) == min(mild)
                        self.assertIs(shows_shortest_gentle(machine, wishes, program), wanted)

    def test_any_value(self):
        for wishes in (OWN_WISH, ((0, 0),), ((0, 1), (1, 0)), ((0, (0, 0)), (1, (0, 1)))):
            for value in ODD_VALUES:
                least = least_lines(PAIR, wishes)
                wanted = value is None if least is None else least == 0 and value == () and isinstance(value, tuple)
                self.assertIs(shows_shortest(PAIR, wishes, value), wanted)
                least = least_gentle_lines(PAIR, wishes)
                wanted = value is None if least is None else least == 0 and value == () and isinstance(value, tuple)
                self.assertIs(shows_shortest_gentle(PAIR, wishes, value), wanted)

    def test_no_lines(self):
        for line in (None, (), (0, 0), (0, 0, 0), (0, 0, (2,)), (0, 0, (True,)), (0, None, (0,)), [0, 0, (0,)],
                     (0, 0, [0]), (False, 0, (0,)), (2, 0, (0,)), (0, 1, (0,)), (0, 2, (0,)), "abc"):
            self.assertIs(shows_shortest(PAIR, OWN_WISH, (line,)), False)
            self.assertIs(shows_shortest_gentle(PAIR, OWN_WISH, ((1, None, (0,)), line)), False)
            self.assertIs(shows_shortest_gentle(PAIR, OWN_WISH, (line, (0, 0, (1,)))), False)
        self.assertIs(shows_shortest(PAIR, OWN_WISH, [OWN]), False)
        self.assertIs(shows_shortest(PAIR, OWN_WISH, {0: OWN}), False)

    def test_any_of_several(self):
        for program, wanted in ((((1, None, (0,)), (0, 0, (1,))), True), ((ONCE, (0, None, (1,))), True),
                                ((ONCE, (0, 0, (1,))), False), (((1, 0, (0,)), (0, None, (1,))), True), ((OWN,), False),
                                (((1, None, (0,)), (0, 0, (1,)), (1, 0, (0,))), False), ((OWN, (1, 0, (0,))), False)):
            self.assertIs(shows_shortest_gentle(PAIR, OWN_WISH, program), wanted)
            self.assertIs(shows_shortest(PAIR, OWN_WISH, program), program == (OWN,))

    def test_a_program_that_makes_deeper_terms(self):
        wishes = ((0, deep(8)), (1, deep(8)))
        self.assertIs(shows_shortest(PAIR, wishes, (OWN,) * 8), False)
        self.assertIs(shows_shortest(PAIR, wishes, (OWN,) * 7 + ((1, None, (0,)),)), True)
        self.assertIs(shows_shortest_gentle(PAIR, wishes, ((1, 0, (0,)), (0, 0, (1,))) * 4), False)
        self.assertIs(shows_shortest(PAIR, wishes, (OWN,) * 100), False)


class Proofs(Case):
    def test_proofed(self):
        back = (0, None, (1,))
        self.assertEqual(proofed(PAIR, (ONCE, OWN, back), 1), (ONCE, ONCE, OWN, OWN, back, back))
        self.assertEqual(proofed(PAIR, (ONCE, back), 2), (ONCE,) * 3 + (back,) * 3)
        self.assertEqual(proofed(PAIR, (ONCE,), 3), (ONCE,) * 4)
        self.assertEqual(proofed(PAIR, (), 3), ())

    def test_proofed_up_to_sixty_lines(self):
        for many, most in ((1, 30), (2, 20), (3, 15)):
            self.assertEqual(proofed(PAIR, (OWN,) * most, many), (OWN,) * 60)
            self.too_many(60, proofed, PAIR, (OWN,) * (most + 1), many)
            self.too_many(60, proofed, PAIR, (OWN,) * 60, many)

    def test_a_gentle_program_is_proof_for_what_it_does(self):
        tried = 0
        for machine, program, many in cases(8, 300, 6):
            program = tuple(line for line in program if line[0] not in line[2])[:4]
            try:
                wishes = tuple(enumerate(run(machine, program)))
                found = is_proof(machine, proofed(machine, program, many), many, wishes)
            except TooMany:
                continue
            tried += 1
            self.assertIs(found, True)
        self.assertGreater(tried, 250)

    def test_proof_program(self):
        chance = random.Random(9)
        for machine, deepest in SMALL:
            terms = oracle.terms(machine, deepest)
            for many in (1, 2, 3):
                for _ in range(25):
                    wishes = some_wishes_of(chance, machine, terms)
                    least = least_gentle_lines(machine, wishes)
                    if least is None:
                        with self.assertRaises(NoProgram):
                            proof_program(machine, many, wishes)
                        continue
                    program = proof_program(machine, many, wishes)
                    self.assertIs(is_proof(machine, program, many, wishes), True)
                    self.assertIs(is_repeat_proof(machine, shortest_gentle(machine, wishes), many, wishes), True)

    def test_no_proof_program(self):
        for machine, wishes in ((LONE, OWN_WISH), (PAIR, ((0, 1), (1, 0))), (PAIR, ((0, (0, 0)), (1, (0, 1))))):
            for many in (1, 2, 3):
                self.assertIs(can_be_proof(machine, wishes), False)
                with self.assertRaises(NoProgram):
                    proof_program(machine, many, wishes)

    def test_wishes_that_need_no_line(self):
        for many in (1, 2, 3):
            self.assertIs(is_proof(PAIR, proof_program(PAIR, many, ((0, 0), (1, 1))), many, ((0, 0), (1, 1))), True)

    def test_a_proof_program_of_sixty_lines_and_of_more(self):
        machine = (4, (1,))
        wishes = ((0, deep(8)), (1, deep(8, 1)), (2, 0))
        self.assertEqual(len(proof_program(machine, 3, wishes)), 60)
        self.too_many(60, proof_program, machine, 3, wishes + ((3, 0),))
        self.assertEqual(len(proof_program(machine, 2, wishes + ((3, 0),))), 48)

    def test_against_all_programs(self):
        """The fewest lines of a program that is proof, by all programs of a few lines."""
        for machine, many, most in ((LONE, 1, 6), ((2, (1,)), 1, 4), ((2, (2,)), 1, 3), ((2, (1,)), 2, 4)):
            fewest = {}
            for program in oracle.all_programs(oracle.all_lines(machine), most):
                sure = oracle.sure_terms(machine, program, many)[-1]
                for cells in product((False, True), repeat=machine[0]):
                    wishes = tuple((cell, sure[cell]) for cell in range(machine[0]) if cells[cell])
                    if wishes and all(term is not None for _, term in wishes):
                        fewest.setdefault(wishes, len(program))
            terms = oracle.terms(machine, 3)
            singles = [((cell, term),) for cell in range(machine[0]) for term in terms]
            for wishes in list(fewest) + singles:
                least = least_gentle_lines(machine, wishes)
                wanted = None if least is None or least * (many + 1) > most else least * (many + 1)
                self.assertEqual(fewest.get(wishes), wanted, (machine, wishes))


class WithSpare(Case):
    def test_gentle_lines_stay(self):
        program = (ONCE, (0, None, (1,)), (0, 1, (1, 1)))
        self.assertEqual(with_spare(PAIR, program), ((3, (1, 2)), program))
        self.assertEqual(with_spare(PAIR, ()), ((3, (1, 2)), ()))

    def test_lines_that_are_not_gentle(self):
        self.assertEqual(with_spare(LONE, (OWN, OWN)), ((2, (1,)), ((1, 0, (0,)), (0, None, (1,))) * 2))
        program = ((0, 1, (1, 0)), ONCE, (1, 1, (1, 1)))
        wanted = ((2, 1, (1, 0)), (0, None, (2,)), ONCE, (2, 1, (1, 1)), (1, None, (2,)))
        self.assertEqual(with_spare(PAIR, program), ((3, (1, 2)), wanted))
        self.assertEqual(with_spare((3, (2,)), ((2, 0, (1, 2)),)), ((4, (2,)), ((3, 0, (1, 2)), (2, None, (3,)))))

    def test_it_does_the_same(self):
        tried = 0
        for machine, program, _ in cases(10, 300, 8):
            if machine[0] == 4:
                continue
            larger, longer = with_spare(machine, program)
            self.assertEqual(larger, (machine[0] + 1, machine[1]))
            self.assertIs(is_gentle(larger, longer), True)
            if all(line[0] not in line[2] for line in program):
                self.assertEqual(longer, program)
            try:
                wanted = run(machine, program)
            except TooMany:
                self.too_many(8, run, larger, longer)
                continue
            tried += 1
            self.assertEqual(run(larger, longer)[:machine[0]], wanted)
        self.assertGreater(tried, 150)

    def test_a_machine_of_four_cells(self):
        for program in ((), (OWN,), None, (OWN,) * 60):
            with self.assertRaises(BadMachine) as caught:
                with_spare(FOUR, program)
            self.assertEqual(caught.exception.part, "cells")

    def test_sixty_lines_and_more(self):
        self.assertEqual(len(with_spare(PAIR, (OWN,) * 30)[1]), 60)
        self.assertEqual(len(with_spare(PAIR, (OWN,) * 29 + (ONCE,) * 2)[1]), 60)
        self.assertEqual(with_spare(PAIR, (ONCE,) * 60)[1], (ONCE,) * 60)
        self.too_many(60, with_spare, PAIR, (OWN,) * 31)
        self.too_many(60, with_spare, PAIR, (OWN,) * 30 + (ONCE,))
        self.too_many(60, with_spare, PAIR, (ONCE,) * 59 + (OWN,))


class LeastCells(Case):
    def test_fewer_than_the_machine_has(self):
        self.assertEqual(least_cells(FOUR, ((0, 0),)), (1, 1))
        self.assertEqual(least_cells(FOUR, ((0, deep(8)),)), (1, 2))
        self.assertEqual(least_cells(FOUR, ((1, deep(8, 1)),)), (2, 2))
        self.assertEqual(least_cells(FOUR, ((3, 3),)), (4, 4))

    def test_from_those_that_are_named(self):
        self.assertEqual(least_cells(FOUR, ((0, 3),)), (4, 4))
        self.assertEqual(least_cells(FOUR, ((0, (0, 2)),)), (3, 3))
        self.assertEqual(least_cells(FOUR, ((0, (1, 0, (0, 1))),)), (2, 3))
        self.assertEqual(least_cells(FOUR, ((2, 0),)), (3, 3))

    def test_more_than_the_machine_has(self):
        self.assertEqual(least_cells(LONE, OWN_WISH), (1, 2))
        self.assertEqual(least_cells(PAIR, ((0, 1), (1, 0))), (3, 3))
        self.assertEqual(least_cells(PAIR, ((0, (0, 0)), (1, (0, 1)))), (2, 3))
        self.assertEqual(least_cells((1, (1, 2)), ((0, (1, 0, (0, 0))),)), (2, 3))

    def test_none(self):
        self.assertEqual(least_cells(FOUR, tuple((cell, (0, cell)) for cell in range(4))), (4, None))
        self.assertEqual(least_cells(FOUR, ((0, 1), (1, 0), (2, 2), (3, 3))), (None, None))
        self.assertEqual(least_cells(FOUR, ((0, 1), (1, 0), (3, 3))), (4, 4))

    def test_by_all_programs(self):
        chance = random.Random(11)
        functions = (1, 2)
        found = {}
        for cells in (1, 2, 3):
            machine = (cells, functions)
            deepest = 2 if cells == 3 else 3
            found[cells] = [oracle.lengths(machine, lines(machine), deepest)
                            for lines in (oracle.all_lines, oracle.gentle_lines)]
        for cells in (1, 2):
            terms = oracle.terms((cells, functions), 2)
            for _ in range(40):
                wishes = some_wishes_of(chance, (cells, functions), terms)
                texts = "".join(oracle.text(term) for _, term in wishes)
                named = max([cell for cell, _ in wishes] + [cell for cell in range(3) if f"c{cell}" in texts]) + 1
                wanted = []
                for kind in (0, 1):
                    fits = [some for some in range(named, 4) if oracle.least(found[some][kind], wishes) is not None]
                    wanted.append(fits[0] if fits else None)
                for machine in ((cells, functions), FOUR[:1] + (functions,)):
                    answer = least_cells(machine, wishes)
                    for got, want in zip(answer, wanted):
                        self.assertIn(got, (want,) if want is not None else (4, None))

    def test_errors(self):
        self.too_many(16, least_cells, PAIR, SEVENTEEN)
        with self.assertRaises(BadWishes):
            least_cells(LONE, ((0, 1),))


if __name__ == "__main__":
    unittest.main()
