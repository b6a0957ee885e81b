"""Point 68: programs whose lines may be lost, and happen more than once, in one run."""

import random
import unittest

from lostlines import boths
from lostlines.boths import is_both_proof
from lostlines.errors import BadNumber, BadProgram, BadWishes, NoProgram, TooMany
from lostlines.losses import is_proof, is_repeat_proof
from lostlines.searches import can_be_proof, proof_program
from tests import oracle
from tests.at_limits import BOTH
from tests.case import Case
from tests.samples import (
    FOUR, LEVELLING, LONE, ONCE, OWN, PAIR, SEVENTEEN, cases, deep, some_machine, some_proof, some_wishes,
)

BACK = (0, None, (1,))
MADE = ((1, (0, 0)),)


class BothProof(Case):
    def test_defined_in_its_file(self):
        self.are_defined_in(boths, ("is_both_proof",))

    def test_no_line(self):
        for many in (1, 2, 3):
            self.assertIs(is_both_proof(PAIR, (), many, ((0, 0), (1, 1))), True)
            self.assertIs(is_both_proof(PAIR, (), many, ((0, 1),)), False)

    def test_lines_that_are_lost(self):
        for many in (1, 2, 3):
            self.assertIs(is_both_proof(PAIR, (ONCE,) * many, many, MADE), False)
            for lines in (many + 1, many + 2, 60):
                self.assertIs(is_both_proof(PAIR, (ONCE,) * lines, many, MADE), True)

    def test_lines_that_happen_more_than_once(self):
        for many in (1, 2, 3):
            self.assertIs(is_both_proof(LONE, (OWN,), many, ((0, (0, 0)),)), False)
            self.assertIs(is_both_proof(PAIR, (OWN, BACK, BACK, BACK, BACK), many, ((0, 1),)), True)
            self.assertIs(is_both_proof(PAIR, (OWN,), many, ((1, 1),)), True)

    def test_one_alone_would_do_no_harm(self):
        """Lost or once each of these does no harm, nor repeated; but not both in one run."""
        program = (BACK, BACK, (0, 0, (0,)), (0, None, (1,)))
        self.assertIs(is_repeat_proof(PAIR, program, 1, ((0, 1),)), True)
        self.assertIs(is_proof(PAIR, program, 1, ((0, 1),)), False)
        self.assertIs(is_both_proof(PAIR, program, 1, ((0, 1),)), False)
        program = ((1, None, (0,)),) * 2 + ((0, 0, (0,)), (0, 0, (1,)))
        self.assertIs(is_proof(PAIR, program, 1, ((0, (0, 0)),)), True)
        self.assertIs(is_repeat_proof(PAIR, program, 1, ((0, (0, 0)),)), True)
        self.assertIs(is_both_proof(PAIR, program, 1, ((0, (0, 0)),)), False)

    def test_as_many_lines_as_needed(self):
        program = ((1, None, (0,)),) * 2 + (OWN,) + (BACK,) * 4
        for many in (1, 2, 3):
            self.assertIs(is_both_proof(PAIR, program, many, ((0, 0),)), many == 1)
            self.assertIs(is_both_proof(PAIR, ((1, None, (0,)),) * 2 + program, many, ((0, 0),)), True)
            self.assertIs(is_both_proof(PAIR, program[:2] + program, many, ((0, 0), (1, 0))), True)

    def test_as_the_long_way(self):
        chance = random.Random(68)
        found = cases(68, 250, 5)
        for _ in range(250):
            machine, many = some_machine(chance), chance.randint(1, 2)
            found.append((machine, some_proof(chance, machine, many, 6 - many), many))
        seen = set()
        for machine, program, many in found:
            with self.subTest(machine=machine, program=program, many=many):
                try:
                    wishes = some_wishes(chance, machine, oracle.ran(machine, program))
                    rows = oracle.both(machine, program, many)
                except oracle.Deep:
                    self.fails(TooMany, {"most": 8}, is_both_proof, machine, program, many, ((0, 0),))
                    continue
                wanted = all(oracle.is_fulfilled(holds, wishes) for holds in rows)
                self.assertIs(is_both_proof(machine, program, many, wishes), wanted)
                seen.add((wanted, is_proof(machine, program, many, wishes),
                          is_repeat_proof(machine, program, many, wishes)))
        self.assertGreaterEqual(seen, {(True, True, True), (False, False, True), (False, False, False)})

    def test_what_is_both_is_each(self):
        for machine, program, many in cases(69, 200, 6):
            wishes = ((0, 0),)
            try:
                found = is_both_proof(machine, program, many, wishes)
            except TooMany:
                continue
            if found:
                self.assertIs(is_proof(machine, program, many, wishes), True)
                self.assertIs(is_repeat_proof(machine, program, many, wishes), True)

    def test_what_proof_program_tells(self):
        chance = random.Random(70)
        tried = 0
        for machine in (LONE, PAIR, (3, (1,)), (3, (1, 2)), FOUR):
            terms = oracle.terms(machine, 2)
            for _ in range(25):
                cells = sorted(chance.sample(range(machine[0]), chance.randint(1, min(2, machine[0]))))
                wishes = tuple((cell, chance.choice(terms)) for cell in cells)
                many = chance.randint(1, 3)
                if not can_be_proof(machine, wishes):
                    self.fails(NoProgram, {}, proof_program, machine, many, wishes)
                    continue
                tried += 1
                self.assertIs(is_both_proof(machine, proof_program(machine, many, wishes), many, wishes), True)
        self.assertGreater(tried, 60)

    def test_no_program_if_none_can_be_proof(self):
        for machine, many, most in ((LONE, 1, 3), (LONE, 2, 2), ((2, (1,)), 1, 3)):
            borne = set()
            for program in oracle.all_programs(oracle.all_lines(machine), most):
                rows = oracle.both(machine, program, many)
                for cell, held in enumerate(zip(*rows)):
                    if len(set(held)) == 1:
                        borne.add((cell, held[0]))
                        self.assertIs(is_both_proof(machine, program, many, ((cell, held[0]),)), True)
            self.assertGreater(len(borne), 0)
            for wish in borne:
                self.assertIs(can_be_proof(machine, (wish,)), True)


class Limits(Case):
    def test_too_deep_a_term(self):
        for many, lines in ((1, 3), (2, 2), (3, 1)):
            self.assertIs(is_both_proof(PAIR, (OWN,) * lines, many, ((1, 1),)), True)
            self.fails(TooMany, {"most": 8}, is_both_proof, PAIR, (OWN,) * (lines + 1), many, ((1, 1),))
        self.assertIs(is_both_proof(PAIR, (OWN,) * 3 + (ONCE,), 1, ((1, deep(8)),)), False)
        self.fails(TooMany, {"most": 8}, is_both_proof, PAIR, (OWN,) * 3 + (ONCE, (0, 0, (1,))), 1, ((0, 0),))

    def test_too_deep_a_term_on_the_way(self):
        self.fails(TooMany, {"most": 8}, is_both_proof, PAIR, (OWN,) * 4 + (BACK,) * 4, 1, ((0, 1),))
        program = (OWN,) * 2 + (BACK,) + (OWN,) * 2
        self.assertIs(is_repeat_proof(PAIR, program, 1, ((1, 1),)), True)
        self.fails(TooMany, {"most": 8}, is_both_proof, PAIR, program, 1, ((1, 1),))
        self.assertIs(is_both_proof(PAIR, (OWN, OWN, BACK, OWN), 1, ((1, 1),)), True)

    def test_pairs(self):
        for many, machine, program in BOTH[3000]:
            self.assertIs(is_both_proof(machine, program, many, ((0, 0),)), False)
        for many, machine, program in BOTH[3001]:
            self.assertIs(is_both_proof(machine, program[:-1], many, ((0, 0),)), False)
            self.fails(TooMany, {"most": 3000}, is_both_proof, machine, program, many, ((0, 0),))
            self.fails(TooMany, {"most": 3000}, is_both_proof, machine, program + LEVELLING, many, ((0, 0),))

    def test_errors(self):
        self.fails(BadNumber, {}, is_both_proof, LONE, (OWN,) * 9, 4, ())
        self.fails(BadWishes, {"index": 0}, is_both_proof, LONE, (OWN,) * 9, 1, ((1, 0),))
        self.fails(BadProgram, {"index": None}, is_both_proof, LONE, (OWN,) * 61, 1, ((0, 0),))
        self.assertIs(is_both_proof(PAIR, (ONCE,), 1, SEVENTEEN), False)


if __name__ == "__main__":
    unittest.main()
