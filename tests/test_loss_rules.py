"""Point 42: other rules of loss, most_lost and needed_lines."""

import random
import unittest

from lostlines import rules
from lostlines.errors import BadLosses, TooMany
from lostlines.losses import harm, is_proof, outcomes
from lostlines.rules import harm_by, is_proof_by, most_lost, needed_lines, outcomes_by, run_by, shows_harm_by
from tests import oracle
from tests.at_limits import RULED, TUPLES
from tests.samples import (
    AT_LIMIT, FOUR, LEVELLING, LONE, ODD_VALUES, ONCE, OVER_LIMIT, OWN, PAIR, cases, deep, some_wishes,
)

BACK = (0, None, (1,))
MADE = ((1, (0, 0)),)
NAMES = ("run_by", "outcomes_by", "is_proof_by", "harm_by", "shows_harm_by", "most_lost", "needed_lines")


def some_rule(chance, lines):
    """A rule of any kind for a program of so many lines."""
    kind = chance.choice(("all", "window", "window", "kept"))
    if kind == "all":
        return ("all", chance.choice((0, 1, 2, 3, 4, 60)))
    if kind == "window":
        width = chance.randint(1, 6)
        return ("window", width, chance.randint(0, width))
    return ("kept", tuple(number for number in range(lines) if chance.random() < 0.5))


class Case(unittest.TestCase):
    def too_many(self, most, function, *arguments):
        with self.assertRaises(TooMany) as caught:
            function(*arguments)
        self.assertEqual(caught.exception.most, most)

    def check_losses(self, program, rule):
        """run_by takes just the losses that the rule lets be, by the words of the document."""
        for lost in oracle.subsets(len(program)):
            if oracle.lets(rule, len(program), lost):
                self.assertEqual(run_by(PAIR, program, rule, lost), oracle.ran(PAIR, oracle.left(program, lost)))
            else:
                with self.assertRaises(BadLosses):
                    run_by(PAIR, program, rule, lost)


class RunBy(Case):
    def test_defined_in_their_file(self):
        for name in NAMES:
            self.assertEqual(getattr(rules, name).__module__, "lostlines.rules")

    def test_no_line(self):
        for rule in (("all", 0), ("all", 60), ("window", 1, 0), ("window", 6, 6), ("kept", ())):
            self.assertEqual(run_by(FOUR, (), rule, ()), (0, 1, 2, 3))

    def test_all(self):
        program = (ONCE, OWN, BACK, ONCE, ONCE)
        for most in (0, 1, 2, 4, 5, 6, 60):
            self.check_losses(program, ("all", most))

    def test_kept(self):
        program = (ONCE, OWN, BACK, ONCE)
        for lines in ((), (0,), (3,), (1, 2), (0, 3), (0, 1, 2, 3)):
            self.check_losses(program, ("kept", lines))

    def test_windows(self):
        program = (ONCE, BACK) * 4
        for width in range(1, 7):
            for most in range(width + 1):
                self.check_losses(program, ("window", width, most))

    def test_a_window_wider_than_the_program(self):
        """No more than n of all its lines are lost then."""
        for width in (3, 6):
            for most in range(width + 1):
                self.check_losses((ONCE, BACK), ("window", width, most))
        with self.assertRaises(BadLosses):
            run_by(PAIR, (ONCE, BACK), ("window", 6, 1), (0, 1))

    def test_no_losses(self):
        for losses in (None, True, 0, "", [], [0], {}, (2,), (-1,), (0, 0), (1, 0), (True,), (None,), ("0",), ((0,),)):
            for rule in (("all", 60), ("window", 6, 6), ("kept", ())):
                with self.assertRaises(BadLosses):
                    run_by(PAIR, (ONCE, BACK), rule, losses)

    def test_sixty_lines(self):
        program = (ONCE, BACK) * 30
        self.assertEqual(run_by(PAIR, program, ("all", 60), tuple(range(60))), (0, 1))
        self.assertEqual(run_by(PAIR, program, ("all", 30), tuple(range(0, 60, 2))), (1, 1))
        self.assertEqual(run_by(PAIR, program, ("window", 6, 3), tuple(range(1, 60, 2))), (0, (0, 0)))
        self.assertEqual(run_by(PAIR, program, ("kept", (0,)), tuple(range(1, 60))), (0, (0, 0)))
        for rule in (("all", 29), ("window", 6, 2), ("kept", (58,))):
            with self.assertRaises(BadLosses):
                run_by(PAIR, program, rule, tuple(range(0, 60, 2)))

    def test_deeper(self):
        self.too_many(8, run_by, LONE, (OWN,) * 8, ("all", 3), ())
        self.assertEqual(run_by(LONE, (OWN,) * 8, ("all", 3), (4,)), (deep(8),))
        self.too_many(8, run_by, PAIR, (OWN,) * 8 + (BACK,), ("kept", ()), (8,))


class ByAllLosses(Case):
    def test_no_line(self):
        for rule in (("all", 0), ("all", 60), ("window", 1, 0), ("window", 6, 6), ("kept", ())):
            self.assertEqual(outcomes_by(PAIR, (), rule), ((0, 1),))
            self.assertIs(is_proof_by(PAIR, (), rule, ((0, 0),)), True)
            self.assertIsNone(harm_by(PAIR, (), rule, ((0, 0),)))
            self.assertEqual(harm_by(PAIR, (), rule, ((0, 1),)), ())

    def test_nothing_may_be_lost(self):
        for rule in (("all", 0), ("window", 1, 0), ("window", 6, 0), ("kept", (0, 1))):
            self.assertEqual(outcomes_by(PAIR, (ONCE, BACK), rule), (((0, 0), (0, 0)),))
            self.assertIs(is_proof_by(PAIR, (ONCE, BACK), rule, ((0, (0, 0)),)), True)

    def test_anything_may_be_lost(self):
        for rule in (("all", 2), ("all", 60), ("window", 1, 1), ("window", 6, 6), ("kept", ())):
            self.assertEqual(outcomes_by(PAIR, (ONCE, BACK), rule), ((0, 1), (0, (0, 0)), (1, 1), ((0, 0), (0, 0))))
            self.assertEqual(harm_by(PAIR, (ONCE,) * 2, rule, MADE), (0, 1))

    def test_lines_that_are_kept(self):
        self.assertIsNone(harm_by(PAIR, (ONCE, ONCE, ONCE), ("kept", (1,)), MADE))
        self.assertEqual(harm_by(PAIR, (ONCE, BACK, ONCE), ("kept", (0, 2)), ((0, (0, 0)),)), (1,))

    def test_how_many_in_all(self):
        self.assertIs(is_proof_by(PAIR, (ONCE,) * 3, ("all", 2), MADE), True)
        self.assertIs(is_proof_by(PAIR, (ONCE,) * 3, ("all", 3), MADE), False)
        self.assertEqual(harm_by(PAIR, (ONCE,) * 3, ("all", 3), MADE), (0, 1, 2))

    def test_windows_and_neighbours(self):
        """At most many of any many + 1 neighbouring lines is no more than many neighbouring ones."""
        for machine, program, many in cases(15, 150, 7):
            rule = ("window", many + 1, many)
            try:
                wanted = outcomes(machine, program, many)
            except TooMany:
                self.too_many(8, outcomes_by, machine, program, rule)
                continue
            self.assertEqual(outcomes_by(machine, program, rule), wanted)
            wishes = ((0, wanted[0][0]),)
            self.assertIs(is_proof_by(machine, program, rule, wishes), is_proof(machine, program, many, wishes))
            found, other = harm_by(machine, program, rule, wishes), harm(machine, program, many, wishes)
            self.assertEqual(found is None, other is None)
            self.assertEqual(len(found or ()), len(other or ()))

    def test_as_the_long_way(self):
        chance = random.Random(16)
        for machine, program, _ in cases(16, 350, 7):
            rule = some_rule(chance, len(program))
            arguments = machine, program, rule
            with self.subTest(machine=machine, program=program, rule=rule):
                try:
                    rows = oracle.held_by(machine, program, rule)
                except oracle.Deep:
                    self.too_many(8, outcomes_by, *arguments)
                    self.too_many(8, is_proof_by, *arguments, ((0, 0),))
                    self.too_many(8, harm_by, *arguments, ((0, 0),))
                    self.too_many(8, shows_harm_by, *arguments, ((0, 0),), ())
                    continue
                self.assertEqual(outcomes_by(*arguments), oracle.in_order(rows.values()))
                wishes = some_wishes(chance, machine, oracle.ran(machine, program))
                harms = oracle.fewest_harms(rows, wishes)
                self.assertIs(is_proof_by(*arguments, wishes), not harms)
                self.assertIn(harm_by(*arguments, wishes), harms or [None])
                for value in [None] + oracle.subsets(len(program)):
                    self.assertIs(shows_harm_by(*arguments, wishes, value), value in (harms or [None]))

    def test_any_value(self):
        for value in ODD_VALUES:
            self.assertIs(shows_harm_by(PAIR, (ONCE, ONCE), ("all", 2), MADE, value), False)
            self.assertIs(shows_harm_by(PAIR, (ONCE, ONCE), ("all", 1), MADE, value), value is None)
        for value in ([0, 1], (1, 0), (0, 0), (False, 1), (0, 1, 2), (0, 2), "01", {0: 1}):
            self.assertIs(shows_harm_by(PAIR, (ONCE, ONCE), ("all", 2), MADE, value), False)
        self.assertIs(shows_harm_by(PAIR, (ONCE, ONCE), ("all", 2), MADE, (0, 1)), True)


class Limits(Case):
    def functions(self, *arguments):
        return ((outcomes_by, arguments), (is_proof_by, (*arguments, ((0, 0),))), (harm_by, (*arguments, ((0, 0),))),
                (shows_harm_by, (*arguments, ((0, 0),), None)))

    def test_just_as_many_pairs(self):
        for rule, machine, program in RULED[3000] + ((("kept", ()), *TUPLES[3000]),):
            for function, arguments in self.functions(machine, program, rule):
                function(*arguments)

    def test_one_pair_more(self):
        for rule, machine, program in RULED[3001] + ((("kept", ()), *TUPLES[3001]),):
            for function, arguments in self.functions(machine, program[:-1], rule):
                function(*arguments)
            for function, arguments in self.functions(machine, program, rule):
                self.too_many(3000, function, *arguments)

    def test_only_what_counts_counts(self):
        """These rules all let any lines be lost, but not the same counts of the losses."""
        machine, program = TUPLES[3000]
        self.too_many(3000, outcomes_by, machine, program, ("all", 60))
        self.assertTrue(outcomes_by(machine, program, ("window", 1, 1)))
        self.too_many(3000, outcomes_by, machine, program, ("window", 2, 2))

    def test_more_pairs_on_the_way(self):
        machine, program = TUPLES[3001]
        self.too_many(3000, outcomes_by, machine, program + LEVELLING, ("kept", tuple(range(18, 30))))
        for machine, _, program in OVER_LIMIT:
            for function, arguments in self.functions(machine, program + LEVELLING, ("window", 4, 3)):
                self.too_many(3000, function, *arguments)

    def test_one_run_has_no_pairs(self):
        for rule, machine, program in RULED[3001]:
            self.assertEqual(run_by(machine, program, rule, (0,)), oracle.ran(machine, program[1:]))


class MostLost(Case):
    def test_no_line(self):
        self.assertEqual(most_lost(PAIR, (), ((0, 0), (1, 1))), 0)
        self.assertIsNone(most_lost(PAIR, (), ((0, 1),)))

    def test_alike_lines(self):
        for lines in (1, 2, 5, 60):
            self.assertEqual(most_lost(PAIR, (ONCE,) * lines, MADE), lines - 1)
            self.assertEqual(most_lost(PAIR, (ONCE,) * lines, ((0, 0),)), lines)
            self.assertIsNone(most_lost(PAIR, (ONCE,) * lines, ((0, 0), (1, 1))))

    def test_the_least_of_several(self):
        program = (ONCE,) * 4 + ((2, 0, (1,)),) * 2
        self.assertEqual(most_lost(FOUR, program, MADE), 3)
        self.assertEqual(most_lost(FOUR, program, ((2, (0, (0, 0))),)), 1)
        self.assertEqual(most_lost(FOUR, program, ((1, (0, 0)), (3, 3))), 3)

    def test_none_if_not_fulfilled_with_nothing_lost(self):
        self.assertIsNone(most_lost(PAIR, (OWN,), ((0, 0),)))
        self.assertEqual(most_lost(PAIR, (OWN, BACK), ((0, 1),)), 0)

    def test_as_the_long_way(self):
        chance = random.Random(17)
        for machine, program, _ in cases(17, 400, 8):
            try:
                wishes = some_wishes(chance, machine, oracle.ran(machine, program))
                rows = oracle.held_by(machine, program, ("kept", ()))
            except oracle.Deep:
                continue
            harms = oracle.fewest_harms(rows, wishes)
            wanted = len(harms[0]) - 1 if harms else len(program)
            with self.subTest(machine=machine, program=program, wishes=wishes):
                self.assertEqual(most_lost(machine, program, wishes), None if wanted < 0 else wanted)
                if wanted >= 0:
                    self.assertIs(is_proof_by(machine, program, ("all", wanted), wishes), True)
                if wanted < len(program):
                    self.assertIs(is_proof_by(machine, program, ("all", wanted + 1), wishes), False)

    def test_more_than_can_be_followed_otherwise(self):
        for machine, _, program in OVER_LIMIT + AT_LIMIT:
            last = tuple(enumerate(oracle.ran(machine, program)))
            self.assertEqual(most_lost(machine, program, last), 0)
        chance = random.Random(19)
        lines = [line for line in oracle.all_lines(FOUR) if line[0] > max(line[2])]
        program = tuple(chance.choice(lines) for _ in range(60))
        self.too_many(3000, outcomes_by, FOUR, program, ("kept", ()))
        self.assertEqual(most_lost(FOUR, program, ((0, 0),)), 60)
        self.assertIsNone(most_lost(FOUR, program, ((0, 1),)))
        program = program[:50] + ((3, None, (0,)),) * 10
        self.too_many(3000, outcomes_by, FOUR, program, ("kept", ()))
        self.assertEqual(most_lost(FOUR, program, ((0, 0), (3, 0))), 9)

    def test_deeper(self):
        self.too_many(8, most_lost, LONE, (OWN,) * 8, ((0, 0),))
        self.too_many(8, most_lost, PAIR, (OWN,) * 8 + (BACK,), ((0, 1),))
        self.assertEqual(most_lost(LONE, (OWN,) * 7, ((0, deep(8)),)), 0)
        self.assertIsNone(most_lost(LONE, (OWN,) * 7, ((0, deep(7)),)))

    def test_deeper_only_if_a_line_is_lost(self):
        program = (OWN,) * 6 + (BACK, OWN, OWN)
        self.too_many(8, most_lost, PAIR, program, ((1, 1),))
        self.too_many(8, most_lost, PAIR, program, ((0, (0, (0, 1))),))
        self.assertIsNone(most_lost(PAIR, program, ((0, 0),)))


class NeededLines(Case):
    def test_no_line(self):
        self.assertEqual(needed_lines(PAIR, (), ((0, 0),)), ())
        self.assertEqual(needed_lines(PAIR, (), ((0, 1),)), ())

    def test_each_and_none(self):
        self.assertEqual(needed_lines(PAIR, (ONCE, BACK), ((0, (0, 0)),)), (0, 1))
        self.assertEqual(needed_lines(PAIR, (ONCE, BACK), MADE), (0,))
        self.assertEqual(needed_lines(PAIR, (ONCE, ONCE), MADE), ())
        self.assertEqual(needed_lines(PAIR, (ONCE, ONCE, BACK), ((0, (0, 0)), (1, (0, 0)))), (2,))

    def test_wishes_that_are_not_fulfilled_with_nothing_lost(self):
        self.assertEqual(needed_lines(PAIR, (ONCE, BACK), ((0, 1),)), (1,))
        self.assertEqual(needed_lines(PAIR, (OWN, OWN), ((0, (0, 0)),)), ())

    def test_sixty_lines(self):
        self.assertEqual(needed_lines(PAIR, (ONCE,) * 59 + (BACK,), ((0, (0, 0)),)), (59,))
        self.assertEqual(needed_lines(PAIR, (ONCE, BACK) * 3 + (BACK,) * 54, ((0, deep(4)),)), (0, 1, 2, 3, 4))

    def test_as_the_long_way(self):
        chance = random.Random(18)
        for machine, program, _ in cases(18, 300, 9):
            try:
                wishes = some_wishes(chance, machine, oracle.ran(machine, program))
                rows = [oracle.ran(machine, oracle.left(program, (number,))) for number in range(len(program))]
            except oracle.Deep:
                continue
            wanted = tuple(number for number, holds in enumerate(rows) if not oracle.is_fulfilled(holds, wishes))
            self.assertEqual(needed_lines(machine, program, wishes), wanted)

    def test_deeper(self):
        self.too_many(8, needed_lines, LONE, (OWN,) * 9, ((0, 0),))
        self.too_many(8, needed_lines, PAIR, (OWN,) * 6 + (BACK, OWN, OWN), ((0, 0),))
        self.assertEqual(needed_lines(LONE, (OWN,) * 8, ((0, deep(8)),)), ())

    def test_no_limit_of_pairs(self):
        for machine, _, program in OVER_LIMIT:
            self.assertEqual(needed_lines(machine, program, ((0, 0),)), tuple(
                number for number in range(len(program))
                if oracle.ran(machine, oracle.left(program, (number,)))[0] != 0))


if __name__ == "__main__":
    unittest.main()
