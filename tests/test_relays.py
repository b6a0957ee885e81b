"""Point 67: relays."""

import random
import unittest

from lostlines import relays
from lostlines.errors import BadMachine, BadNumber, BadRelay, TooMany
from lostlines.losses import outcomes, sure_terms
from lostlines.relays import relay_outcomes, relay_sure
from tests import oracle
from tests.at_limits import RELAYED
from tests.case import Case
from tests.samples import (
    AT_LIMIT, FOUR, LEVELLING, LONE, ONCE, OVER_LIMIT, OWN, PAIR, deep, some_machine, some_program,
)

BACK = (0, None, (1,))
BOTH = (relay_outcomes, relay_sure)


def some_relay(chance, machine, most_lines):
    """A relay of up to so many lines in all."""
    cells, functions = machine
    stages = []
    while not stages or (len(stages) < 4 and chance.randrange(3) > 0):
        takes = tuple(chance.randrange(cells) for _ in range(chance.randint(1, 4)))
        cells = len(takes)
        lines = chance.randint(0, min(4, most_lines))
        most_lines -= lines
        stages.append((some_program(chance, (cells, functions), lines), takes))
    return tuple(stages)


class Outcomes(Case):
    def test_defined_in_their_file(self):
        self.are_defined_in(relays, ("relay_outcomes", "relay_sure"))

    def test_stages_of_no_lines(self):
        self.assertEqual(relay_outcomes(PAIR, (((), (0, 1)),), 1), ((0, 1),))
        self.assertEqual(relay_outcomes(PAIR, (((), (1, 0)),), 1), ((1, 0),))
        self.assertEqual(relay_outcomes(PAIR, (((), (1,)),), 1), ((1,),))
        self.assertEqual(relay_outcomes(LONE, (((), (0, 0, 0, 0)),), 3), ((0, 0, 0, 0),))
        self.assertEqual(relay_outcomes(FOUR, (((), (3, 1, 2)), ((), (2, 0)), ((), (1, 1, 0)), ((), (0,))), 2), ((3,),))
        self.assertEqual(relay_sure(FOUR, (((), (3, 1, 2)), ((), (2, 0))), 2), (2, 3))

    def test_one_stage_with_all_cells(self):
        chance = random.Random(670)
        for _ in range(80):
            machine, many = some_machine(chance), chance.randint(1, 3)
            program = some_program(chance, machine, chance.randint(0, 7))
            stages = ((program, tuple(range(machine[0]))),)
            try:
                wanted = outcomes(machine, program, many)
            except TooMany:
                self.fails(TooMany, {"most": 8}, relay_outcomes, machine, stages, many)
                continue
            self.assertEqual(relay_outcomes(machine, stages, many), wanted)
            self.assertEqual(relay_sure(machine, stages, many), sure_terms(machine, program, many)[-1])

    def test_more_cells_than_the_machine_has(self):
        stages = ((((1, 1, (0, 3)), (2, None, (1,))), (1, 0, 0, 1)),)
        wanted = ((1, 0, 0, 1), (1, (1, 1, 1), 0, 1), (1, (1, 1, 1), (1, 1, 1), 1))
        self.assertEqual(relay_outcomes(PAIR, stages, 1), wanted)
        self.assertEqual(relay_outcomes(LONE, ((((3, 0, (0,)),) * 2, (0, 0, 0, 0)),), 1), ((0, 0, 0, (0, 0)),))

    def test_lines_are_lost_in_each_stage_anew(self):
        """One stage's last line and the next one's first are no neighbours."""
        stages = (((ONCE,), (0, 1)), (((1, 0, (1,)),), (0, 1)))
        wanted = ((0, 1), (0, (0, 0)), (0, (0, 1)), (0, (0, (0, 0))))
        self.assertEqual(relay_outcomes(PAIR, stages, 1), wanted)
        self.assertEqual(len(outcomes(PAIR, stages[0][0] + stages[1][0], 1)), 3)
        stages = (((BACK, ONCE), (0, 1)), ((ONCE, ONCE), (0, 1)))
        self.assertEqual(relay_outcomes(PAIR, stages, 2), oracle.in_order(oracle.relayed(PAIR, stages, 2)))

    def test_what_is_not_taken_is_gone(self):
        stages = (((ONCE, (0, 0, (0,))), (0, 1)), ((), (1,)))
        self.assertEqual(relay_outcomes(PAIR, stages, 1), ((1,), ((0, 0),)))
        stages = (((OWN,), (0, 1)), ((), (1, 1)), (((0, 0, (1,)),), (0, 1)))
        self.assertEqual(relay_outcomes(PAIR, stages, 1), ((1, 1), ((0, 1), 1)))

    def test_a_cell_taken_twice(self):
        stages = (((ONCE,), (0, 1)), (((0, 0, (1,)),) * 2, (1, 1)))
        self.assertEqual(relay_outcomes(PAIR, stages, 1), (((0, 1), 1), ((0, (0, 0)), (0, 0))))

    def test_order_is_that_of_the_texts(self):
        stages = ((((0, 1, (2, 1)), (0, 0, (0,)), (1, 2, (0, 0))), (3, 1, 2)), (((2, None, (1,)),), (0, 1, 0)))
        found = relay_outcomes(FOUR, stages, 2)
        texts = [[oracle.text(term) for term in holds] for holds in found]
        self.assertEqual(texts, sorted(texts))
        self.assertGreater(len(texts), 6)

    def test_sixty_lines_in_each_stage(self):
        stages = (((ONCE,) * 60, (0, 1)), ((BACK,) * 60, (0, 1)), ((ONCE,) * 60, (0, 1)), ((BACK,) * 60, (0, 1)))
        self.assertEqual(relay_outcomes(PAIR, stages, 3), ((deep(3), deep(3)),))
        self.assertEqual(relay_sure(PAIR, stages[:3], 3), (deep(2), deep(3)))

    def test_as_the_long_way(self):
        chance = random.Random(671)
        lengths = set()
        for _ in range(300):
            machine, many = some_machine(chance), chance.randint(1, 3)
            stages = some_relay(chance, machine, 9)
            with self.subTest(machine=machine, stages=stages, many=many):
                try:
                    rows = oracle.relayed(machine, stages, many)
                except oracle.Deep:
                    for function in BOTH:
                        self.fails(TooMany, {"most": 8}, function, machine, stages, many)
                    continue
                lengths.add(len(stages))
                self.assertEqual(relay_outcomes(machine, stages, many), oracle.in_order(rows))
                sure = tuple(held[0] if len(set(held)) == 1 else None for held in zip(*rows))
                self.assertEqual(relay_sure(machine, stages, many), sure)
        self.assertEqual(lengths, {1, 2, 3, 4})


class Sure(Case):
    def test_sure_of_a_cell_number(self):
        self.assertEqual(relay_sure(PAIR, (((BACK,), (1, 0)),), 1), (None, 0))
        self.assertEqual(relay_sure(PAIR, ((((1, None, (0,)),), (0, 0)),), 1), (0, 0))

    def test_made_sure_later(self):
        stages = (((ONCE,), (0, 1)), (((1, None, (0,)),) * 2, (0, 1)))
        self.assertEqual(relay_sure(PAIR, stages[:1], 1), (0, None))
        self.assertEqual(relay_sure(PAIR, stages, 1), (0, 0))
        self.assertEqual(relay_sure(PAIR, stages, 2), (0, None))

    def test_not_by_lines_of_unlike_stages(self):
        """Each stage's line can be lost: neighbours are counted in each stage alone."""
        stages = (((ONCE,), (0, 1)), ((ONCE,), (0, 1)))
        self.assertEqual(relay_sure(PAIR, stages, 1), (0, None))
        self.assertEqual(sure_terms(PAIR, (ONCE, ONCE), 1)[-1], (0, (0, 0)))


class Limits(Case):
    def test_one_stage_and_four_and_five(self):
        stage = ((), (1, 0))
        for count in range(1, 5):
            wanted = (0, 1) if count % 2 == 0 else (1, 0)
            self.assertEqual(relay_sure(PAIR, (stage,) * count, 1), wanted)
        for function in BOTH:
            self.fails(BadRelay, {"index": None}, function, PAIR, (stage,) * 5, 1)
            self.fails(BadRelay, {"index": None}, function, PAIR, (), 1)

    def test_takes_of_one_cell_and_of_four_and_of_five(self):
        for count in range(1, 5):
            self.assertEqual(relay_sure(PAIR, (((), (1,) * count),), 1), (1,) * count)
        for function in BOTH:
            for takes in ((), (1,) * 5, (2,), (0, -1), (True,), [0], 0, None):
                self.fails(BadRelay, {"index": 0}, function, PAIR, (((), takes),), 1)
                self.fails(BadRelay, {"index": 1}, function, FOUR, (((), (3, 2)), ((), takes)), 1)

    def test_lines_of_a_stage(self):
        """They are for the stage's own cells: one more or fewer than the machine has."""
        line = (2, 0, (0,))
        self.assertEqual(relay_sure(PAIR, (((line,) * 2, (0, 1, 1)),), 1), (0, 1, (0, 0)))
        for function in BOTH:
            self.fails(BadRelay, {"index": 0}, function, FOUR, (((line,), (0, 1)),), 1)
            self.fails(BadRelay, {"index": 1}, function, FOUR, (((line,), (0, 1, 2)), ((line,), (0, 1))), 1)
            self.fails(BadRelay, {"index": 0}, function, FOUR, (((ONCE,) * 61, (0, 1)),), 1)
            self.fails(BadRelay, {"index": 2}, function, PAIR, (((), (0,)), ((), (0,)), ((ONCE,), (0,)), None), 1)
            function(FOUR, (((ONCE,) * 60, (0, 1)),), 1)

    def test_too_deep_a_term(self):
        for function in BOTH:
            self.fails(TooMany, {"most": 8}, function, LONE, (((OWN,) * 8, (0,)),), 1)
            stages = (((OWN,) * 4, (0,)), ((), (0, 0)), ((OWN,) * 4, (1, 0)))
            self.fails(TooMany, {"most": 8}, function, LONE, stages, 3)
            function(LONE, stages[:2] + (((OWN,) * 3, (1, 0)),), 3)

    def test_too_deep_a_term_on_the_way(self):
        for function in BOTH:
            self.fails(TooMany, {"most": 8}, function, PAIR, (((OWN,) * 8, (0, 1)), ((), (1,))), 1)
            self.fails(TooMany, {"most": 8}, function, PAIR, (((OWN,) * 8 + (BACK,) * 2, (0, 1)),), 1)
            self.fails(TooMany, {"most": 8}, function, PAIR, (((OWN,) * 6, (0, 1)), ((BACK, OWN, OWN), (0, 1))), 1)

    def test_pairs_of_one_stage(self):
        for function in BOTH:
            for machine, many, program in OVER_LIMIT:
                self.fails(TooMany, {"most": 3000}, function, machine, ((program, (0, 1, 2, 3)),), many)
                stages = ((), (0, 1, 2, 3)), (program + LEVELLING, (0, 1, 2, 3)), ((), (0,))
                self.fails(TooMany, {"most": 3000}, function, machine, stages, many)
                function(machine, ((program[:-1], (0, 1, 2, 3)), ((), (0,))), many)
        for machine, many, program in AT_LIMIT:
            self.assertGreater(len(relay_outcomes(machine, ((program, (0, 1, 2, 3)),), many)), 2900)

    def test_pairs_of_the_last_stage(self):
        for many, machine, stages in RELAYED[3000]:
            self.assertGreater(len(relay_outcomes(machine, stages, many)), 1000)
        for many, machine, stages in RELAYED[3001]:
            for function in BOTH:
                first, (program, takes) = stages
                function(machine, (first, (program[:-1], takes)), many)
                self.fails(TooMany, {"most": 3000}, function, machine, stages, many)
                self.fails(TooMany, {"most": 3000}, function, machine, stages + (((), (0,)),), many)
                function(machine, (((), (0, 1, 2, 3)), (program, takes)), many)

    def test_which_error_comes_first(self):
        for function in BOTH:
            self.fails(BadMachine, {"part": "functions"}, function, (2, ()), None, 0)
            self.fails(BadRelay, {"index": None}, function, PAIR, None, 0)
            self.fails(BadNumber, {}, function, PAIR, (((OWN,) * 9, (0,)),), 0)
            self.fails(BadNumber, {}, function, PAIR, (((OWN,) * 9, (0,)),), True)


if __name__ == "__main__":
    unittest.main()
