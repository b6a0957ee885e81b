"""Points 10 and 11: how often lines must stand, and the chance that a program does what is wished for."""

import random
import unittest
from fractions import Fraction
from itertools import product
from math import gcd

from lostlines import copies
from lostlines.copies import right_chance, spared
from lostlines.errors import BadNumber, BadProgram, BadWishes, TooMany
from lostlines.losses import is_proof
from lostlines.machines import run
from tests import oracle
from tests.at_limits import TUPLES
from tests.samples import FOUR, LEVELLING, LONE, ONCE, OVER_LIMIT, OWN, PAIR, cases, deep, some_wishes

BACK = (0, None, (1,))
MADE = ((1, (0, 0)),)


def repeated(program, row):
    return tuple(line for line, often in zip(program, row) for _ in range(often))


def all_spared(machine, program, many, wishes):
    """What spared returns, by all numbers of times."""
    rows = sorted(product(range(1, many + 2), repeat=len(program)), key=lambda row: (sum(row), row))
    fewest = None
    found = []
    for row in rows:
        if fewest is not None and sum(row) > fewest:
            break
        if is_proof(machine, repeated(program, row), many, wishes):
            fewest = sum(row)
            found.append(row)
    return tuple(found)


def chance_by_all_losses(machine, program, chance, wishes):
    """What right_chance returns, by all lots of lost lines."""
    lost = Fraction(*chance)
    total = Fraction(0)
    for flags in product((False, True), repeat=len(program)):
        weight = Fraction(1)
        for flag in flags:
            weight *= lost if flag else 1 - lost
        lines = [line for line, flag in zip(program, flags) if not flag]
        if weight and oracle.is_fulfilled(oracle.ran(machine, lines), wishes):
            total += weight
    return total.numerator, total.denominator


class Case(unittest.TestCase):
    def too_many(self, most, function, *arguments):
        with self.assertRaises(TooMany) as caught:
            function(*arguments)
        self.assertEqual(caught.exception.most, most)


class Spared(Case):
    def no_program(self, *arguments):
        with self.assertRaises(BadProgram) as caught:
            spared(*arguments)
        self.assertIsNone(caught.exception.index)

    def test_defined_in_their_file(self):
        for name in ("spared", "right_chance"):
            self.assertEqual(getattr(copies, name).__module__, "lostlines.copies")

    def test_no_line(self):
        for many in (1, 2, 3):
            self.assertEqual(spared(PAIR, (), many, ((0, 0), (1, 1))), ((),))

    def test_each_line_is_needed(self):
        for many in (1, 2, 3):
            self.assertEqual(spared(PAIR, (ONCE, BACK), many, ((0, (0, 0)),)), ((many + 1, many + 1),))

    def test_lines_that_do_not_matter(self):
        program = (ONCE, (2, 0, (3,)), (2, 1, (0, 0)))
        for many in (1, 2, 3):
            self.assertEqual(spared(FOUR, program, many, MADE), ((many + 1, 1, 1),))
            self.assertEqual(spared(FOUR, program, many, ((3, 3),)), ((1, 1, 1),))

    def test_lines_that_stand_for_each_other(self):
        self.assertEqual(spared(PAIR, (ONCE, ONCE), 1, MADE), ((1, 1),))
        self.assertEqual(spared(PAIR, (ONCE, ONCE), 2, MADE), ((1, 2), (2, 1)))
        self.assertEqual(spared(PAIR, (ONCE, ONCE), 3, MADE), ((1, 3), (2, 2), (3, 1)))
        self.assertEqual(spared(PAIR, (ONCE, ONCE, ONCE), 3, MADE), ((1, 1, 2), (1, 2, 1), (2, 1, 1)))

    def test_alike_lines_apart(self):
        other = (2, 0, (3,))
        self.assertEqual(spared(FOUR, (ONCE, other, ONCE), 1, MADE), ((1, 1, 2), (2, 1, 1)))
        self.assertEqual(spared(FOUR, (ONCE, other, other, ONCE), 1, MADE), ((1, 1, 1, 2), (2, 1, 1, 1)))
        self.assertEqual(spared(FOUR, (ONCE, other, ONCE), 3, MADE), ((1, 1, 4), (4, 1, 1)))

    def test_a_line_and_two_neighbours(self):
        program = (ONCE, (2, 0, (3,)), ONCE, ONCE)
        self.assertEqual(spared(FOUR, program, 2, MADE), ((1, 1, 1, 2), (1, 1, 2, 1)))
        self.assertEqual(spared(FOUR, program, 3, MADE), ((1, 1, 1, 3), (1, 1, 2, 2), (1, 1, 3, 1)))
        self.assertEqual(spared(FOUR, program[:0:-1] + program[:1], 2, MADE), ((1, 2, 1, 1), (2, 1, 1, 1)))

    def test_a_line_between_that_is_to_be_undone(self):
        program = (ONCE, (1, None, (2,)), ONCE)
        self.assertEqual(spared(FOUR, program, 1, MADE), ((1, 1, 2),))
        self.assertEqual(spared(FOUR, program, 3, MADE), ((1, 1, 4),))

    def test_ten_lines_and_more(self):
        self.assertEqual(spared(PAIR, (ONCE,) * 10, 3, MADE), ((1,) * 10,))
        self.no_program(PAIR, (ONCE,) * 11, 3, MADE)
        self.no_program(PAIR, (ONCE,) * 60, 1, MADE)
        program = tuple(((at + 1) % 4, 0, (at % 4,)) for at in range(7)) + ((0, 0, (1,)),) * 3
        found = spared(FOUR, program, 3, ((3, deep(8)),))
        self.assertEqual(found, ((4,) * 7 + (1,) * 3,))

    def test_not_gentle(self):
        self.no_program(PAIR, (OWN,), 1, ((0, (0, 0)),))
        self.no_program(PAIR, (OWN, BACK), 1, ((0, 1),))
        self.no_program(PAIR, (ONCE, ONCE, (1, 1, (1, 0))), 1, ((0, 0),))

    def test_wishes_that_are_not_fulfilled(self):
        self.no_program(PAIR, (ONCE,), 1, ((1, 1),))
        self.no_program(PAIR, (), 1, ((1, 0),))
        self.no_program(PAIR, (ONCE,), 1, ((0, 0), (1, 1)))

    def test_which_error_comes_first(self):
        for program in ((OWN,), (ONCE,) * 11, ()):
            with self.assertRaises(BadNumber):
                spared(PAIR, program, 0, ((1, 0),))
            with self.assertRaises(BadWishes):
                spared(PAIR, program, 1, ((1, 0), (0, 0)))
        with self.assertRaises(BadProgram) as caught:
            spared(PAIR, (ONCE, None), 0, None)
        self.assertEqual(caught.exception.index, 1)

    def test_deeper(self):
        program = (ONCE, (0, 0, (1,))) * 4
        self.too_many(8, spared, FOUR, ((1, 1, (0, 0)), (0, 1, (1, 1))) * 4, 1, ((3, 3),))
        self.too_many(8, spared, PAIR, program + (BACK,), 3, ((0, deep(8)),))
        self.no_program(PAIR, program + (BACK,), 3, ((0, deep(7)),))
        self.no_program(PAIR, program, 3, ((0, deep(8)),))

    def test_deeper_only_if_a_line_is_lost(self):
        machine = (3, (1,))
        program = (ONCE, (0, 0, (1,))) * 3 + ((0, None, (2,)), ONCE, (0, 0, (1,)))
        self.assertEqual(run(machine, program)[0], (0, (0, 2)))
        self.too_many(8, spared, machine, program, 1, ((2, 2),))
        self.no_program(machine, program, 1, ((2, 0),))

    def test_deeper_only_if_neighbours_are_lost(self):
        program = (ONCE, (0, 0, (1,))) * 3 + ((0, None, (2,)),) * 2 + (ONCE, (0, 0, (1,)))
        self.assertEqual(spared(FOUR, program, 1, ((2, 2),)), ((1,) * 10,))
        self.too_many(8, spared, FOUR, program, 2, ((2, 2),))

    def test_deeper_only_if_a_wish_is_not_fulfilled(self):
        back = (0, None, (2,))
        program = (ONCE, (0, 0, (1,))) * 2 + (back, (3, 0, (0,)), (0, 0, (3,)), back, ONCE, (0, 0, (1,)))
        self.assertEqual(run(FOUR, program)[3], (0, 2))
        self.too_many(8, spared, FOUR, program, 1, ((3, (0, 2)),))
        self.assertEqual(len(spared(FOUR, program[1:], 1, ((3, (0, 2)),))), 1)

    def test_by_all_numbers_of_times(self):
        chance = random.Random(12)
        tried = 0
        for machine, program, many in cases(12, 700, 9):
            program = tuple(line for line in program if line[0] not in line[2])[:5 - many // 2]
            wishes = some_wishes(chance, machine, run(machine, program))
            with self.subTest(machine=machine, program=program, many=many, wishes=wishes):
                if not oracle.is_fulfilled(run(machine, program), wishes):
                    self.no_program(machine, program, many, wishes)
                    continue
                tried += 1
                self.assertEqual(spared(machine, program, many, wishes), all_spared(machine, program, many, wishes))
        self.assertGreater(tried, 400)

    def test_ten_lines_that_come_apart(self):
        program = ((0, None, (2,)), (1, None, (3,))) * 2 + ((3, 0, (2,)), (1, None, (0,)), (0, 0, (2,))) * 2
        wishes = ((0, (0, 2)), (1, (0, 2)))
        found = spared(FOUR, program, 1, wishes)
        self.assertEqual(found, all_spared(FOUR, program, 1, wishes))


class RightChance(Case):
    def test_no_line(self):
        for chance in ((0, 1), (1, 2), (1, 1), (1000, 1000)):
            self.assertEqual(right_chance(PAIR, (), chance, ((0, 0),)), (1, 1))
            self.assertEqual(right_chance(PAIR, (), chance, ((0, 1),)), (0, 1))

    def test_never_lost(self):
        self.assertEqual(right_chance(PAIR, (ONCE,), (0, 1), MADE), (1, 1))
        self.assertEqual(right_chance(PAIR, (ONCE,), (0, 1000), ((1, 1),)), (0, 1))

    def test_always_lost(self):
        self.assertEqual(right_chance(PAIR, (ONCE,), (1, 1), MADE), (0, 1))
        self.assertEqual(right_chance(PAIR, (ONCE,) * 60, (7, 7), ((0, 0), (1, 1))), (1, 1))

    def test_lowest_terms(self):
        self.assertEqual(right_chance(PAIR, (ONCE,), (2, 4), MADE), (1, 2))
        self.assertEqual(right_chance(PAIR, (ONCE,), (400, 1000), MADE), (3, 5))
        self.assertEqual(right_chance(PAIR, (ONCE, ONCE), (500, 1000), MADE), (3, 4))
        self.assertEqual(right_chance(PAIR, (ONCE, BACK), (1, 3), ((0, (0, 0)),)), (4, 9))

    def test_neighbours_may_be_lost_however_many(self):
        self.assertEqual(right_chance(PAIR, (ONCE,) * 10, (1, 2), MADE), (1023, 1024))

    def test_sixty_lines(self):
        top, bottom = right_chance(PAIR, (ONCE,) * 60, (999, 1000), MADE)
        self.assertEqual((top, bottom), (1000 ** 60 - 999 ** 60, 1000 ** 60))
        self.assertEqual(gcd(top, bottom), 1)
        self.assertEqual([top.__class__, bottom.__class__], [int, int])

    def test_all_wishes(self):
        program = (ONCE, (2, 0, (3,)))
        self.assertEqual(right_chance(FOUR, program, (1, 5), ((1, (0, 0)), (2, (0, 3)))), (16, 25))
        self.assertEqual(right_chance(FOUR, program, (1, 5), ((1, (0, 0)), (2, 2))), (4, 25))

    def test_by_all_losses(self):
        chance = random.Random(13)
        for machine, program, _ in cases(13, 250, 8):
            odds = chance.choice(((0, 1), (1, 1), (1, 2), (3, 7), (2, 6), (999, 1000), (1, 1000)))
            try:
                wishes = some_wishes(chance, machine, oracle.ran(machine, program))
                wanted = chance_by_all_losses(machine, program, odds, wishes)
            except oracle.Deep:
                continue
            with self.subTest(machine=machine, program=program, chance=odds, wishes=wishes):
                self.assertEqual(right_chance(machine, program, odds, wishes), wanted)

    def test_deeper(self):
        self.too_many(8, right_chance, LONE, (OWN,) * 8, (1, 2), ((0, 0),))
        self.too_many(8, right_chance, LONE, (OWN,) * 8, (0, 1), ((0, 0),))
        self.too_many(8, right_chance, PAIR, (OWN,) * 8 + (BACK,) * 3, (1, 1000), ((0, 0),))
        self.assertEqual(right_chance(LONE, (OWN,) * 7, (1, 2), ((0, deep(8)),)), (1, 128))

    def test_deeper_only_if_a_line_is_lost(self):
        program = (OWN,) * 6 + (BACK, OWN, OWN)
        self.too_many(8, right_chance, PAIR, program, (1, 2), ((0, 0),))
        self.assertEqual(right_chance(PAIR, program, (0, 2), ((0, (0, (0, 1))),)), (1, 1))
        self.assertEqual(right_chance(LONE, (OWN,) * 60, (2, 2), ((0, 0),)), (1, 1))

    def test_more_tuples(self):
        for machine, _, program in OVER_LIMIT:
            self.too_many(3000, right_chance, machine, program, (1, 2), ((0, 0),))
            self.too_many(3000, right_chance, machine, program + LEVELLING, (1, 2), ((0, 0),))
            self.assertEqual(right_chance(machine, program, (0, 1), ((0, 0),))[1], 1)

    def test_just_as_many_tuples(self):
        machine, program = TUPLES[3000]
        top, bottom = right_chance(machine, program, (1, 2), ((0, 0),))
        self.assertEqual((2 ** 23 % bottom, gcd(top, bottom)), (0, 1))
        machine, program = TUPLES[3001]
        self.too_many(3000, right_chance, machine, program, (1, 2), ((0, 0),))
        self.assertEqual(len(right_chance(machine, program[:-1], (1, 2), ((0, 0),))), 2)


if __name__ == "__main__":
    unittest.main()
