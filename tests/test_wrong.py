"""Point 1, and the errors of all points: wrong values for each argument, two at once, and which error comes first."""

import copy
import unittest
from itertools import combinations

from lostlines import errors
from lostlines.copies import right_chance, spared
from lostlines.counts import small_harms
from lostlines.losses import harm, is_proof, is_repeat_proof, outcomes, run_lost, shows_harm, sure_terms
from lostlines.machines import is_gentle, run, term_text
from lostlines.searches import (
    can_be_proof, least_cells, least_gentle_lines, least_lines, proof_program, shortest, shortest_gentle,
    shows_shortest, shows_shortest_gentle, with_spare,
)
from lostlines.texts import wishes_text
from tests.samples import (
    AT_LIMIT, FOUR, LEVELLING, LONE, ODD_VALUES, ONCE, OVER_LIMIT, OWN, PAIR, SEVENTEEN, SIXTEEN, deep, wide,
)
from tests.wrongs import FEW, FUNCTIONS, NOT_RUN, RIGHT, WRONG


class Case(unittest.TestCase):
    def fails(self, function, arguments, kind, worth):
        """The error of this kind of argument is raised with this field."""
        error, field, _ = WRONG[kind]
        with self.subTest(function=function.__name__, arguments=arguments):
            with self.assertRaises(errors.LinesError) as caught:
                function(*arguments)
            self.assertIs(caught.exception.__class__, error)
            if field is not None:
                found = getattr(caught.exception, field)
                self.assertEqual((found.__class__, found), (worth.__class__, worth))


    def too_many(self, most, function, *arguments):
        with self.subTest(function=function.__name__, arguments=arguments):
            with self.assertRaises(errors.TooMany) as caught:
                function(*arguments)
            self.assertEqual(caught.exception.most, most)


class OneWrong(Case):
    def test_right_values(self):
        for function, kinds in FUNCTIONS:
            function(*[RIGHT[kind] for kind in kinds])

    def test_each_wrong_value(self):
        for function, kinds in FUNCTIONS:
            for at, kind in enumerate(kinds):
                for value, worth in WRONG.get(kind, ((), (), ()))[2]:
                    arguments = [RIGHT[name] for name in kinds]
                    arguments[at] = value
                    self.fails(function, arguments, kind, worth)

    def test_nothing_is_modified(self):
        for function, kinds in FUNCTIONS:
            for at, kind in enumerate(kinds):
                for value in (*ODD_VALUES, [ONCE], [[0, 0]], [0], {"a": [0]}):
                    arguments = [RIGHT[name] for name in kinds]
                    arguments[at] = copy.deepcopy(value)
                    before = copy.deepcopy(arguments)
                    try:
                        function(*arguments)
                    except errors.LinesError:
                        pass
                    self.assertEqual(repr(arguments), repr(before))

    def test_equal_arguments_equal_answers(self):
        for function, kinds in FUNCTIONS:
            arguments = [RIGHT[kind] for kind in kinds]
            self.assertEqual(function(*arguments), function(*copy.deepcopy(arguments)))


class Limits(Case):
    """The last values that are right, beside the first that are wrong."""

    def test_machines(self):
        for cells in range(1, 5):
            for functions in ((1,), (2,), (1, 2), (2, 2, 1)):
                self.assertEqual(run((cells, functions), ()), tuple(range(cells)))

    def test_programs(self):
        self.fails(run, (PAIR, (ONCE,) * 61), "program", None)
        self.assertEqual(run(PAIR, (ONCE,) * 60), (0, (0, 0)))
        self.fails(run, (LONE, ((0, None, (0,)),)), "program", 0)
        self.fails(run, (LONE, ((0, 0, (1,)),)), "program", 0)
        self.fails(run, (LONE, ((0, 1, (0,)),)), "program", 0)
        self.fails(run, (FOUR, ((3, 2, (3, 3)), (3, 3, (3, 3)))), "program", 1)
        self.fails(run, (FOUR, ((3, 2, (3, 3)), (4, 2, (3, 3)))), "program", 1)
        self.assertEqual(run(FOUR, ((3, 2, (3, 0)), (0, None, (3,)))), ((2, 3, 0), 1, 2, (2, 3, 0)))

    def test_numbers(self):
        for many in (1, 2, 3):
            self.assertEqual(outcomes(PAIR, (), many), ((0, 1),))

    def test_room_for_a_spare_cell(self):
        self.assertEqual(with_spare((3, (1, 2)), ()), ((4, (1, 2)), ()))
        for program in ((), (ONCE,), None):
            self.fails(with_spare, ((4, (1, 2)), program), "machine", "cells")
        self.fails(with_spare, ((4, ()), ()), "machine", "cells")
        self.fails(with_spare, ((3, ()), ()), "machine", "functions")

    def test_chances(self):
        for chance in ((0, 1), (1, 1), (0, 1000), (1000, 1000), (999, 1000), (2, 4)):
            self.assertEqual(right_chance(PAIR, (), chance, ((0, 0),)), (1, 1))

    def test_losses(self):
        program = (ONCE,) * 8
        for many in (1, 2, 3):
            for first in range(9 - many):
                self.assertEqual(run_lost(PAIR, program, many, tuple(range(first, first + many))), (0, (0, 0)))
            for first in range(8 - many):
                losses = tuple(range(first, first + many + 1))
                self.fails(run_lost, (PAIR, program, many, losses), "losses", ())
            for losses in ((0, 0), (2, 2, 4), (2, 4, 4), (4, 2), (1, 0), (0, 4, 2)):
                self.fails(run_lost, (PAIR, program, many, losses), "losses", ())
        self.fails(run_lost, (PAIR, program, 1, (8,)), "losses", ())
        self.fails(run_lost, (PAIR, (), 1, (0,)), "losses", ())

    def test_terms(self):
        self.fails(term_text, (LONE, 1), "term", ())
        self.fails(term_text, (LONE, (1, 0)), "term", ())
        self.fails(term_text, (FOUR, (3, 0)), "term", ())
        self.assertEqual(term_text(PAIR, (1, wide(7), deep(7))).count("c0"), 65)

    def test_wishes(self):
        self.assertIs(is_proof(PAIR, (), 1, ((0, 0), (1, deep(8)))), False)
        self.fails(is_proof, (PAIR, (), 1, ((0, 0), (1, deep(9)))), "wishes", 1)
        self.fails(is_proof, (LONE, (), 1, ((0, 0), (1, 0))), "wishes", 1)
        self.assertIs(is_proof(FOUR, (), 1, ((0, 0), (1, 1), (2, 2), (3, 3))), True)
        self.assertIs(is_proof(FOUR, (), 1, ((1, 1), (3, 3))), True)
        self.fails(is_proof, (FOUR, (), 1, ((1, 1), (3, 3), (2, 2))), "wishes", 2)


class TwoWrong(Case):
    def test_the_leftmost_argument(self):
        for function, kinds in FUNCTIONS:
            known = [at for at, kind in enumerate(kinds) if kind in FEW]
            for left, right in combinations(known, 2):
                for value, worth in FEW[kinds[left]]:
                    for other, _ in FEW[kinds[right]]:
                        arguments = [RIGHT[kind] for kind in kinds]
                        arguments[left] = value
                        arguments[right] = other
                        self.fails(function, arguments, kinds[left], worth)

    def test_all_wrong_from_one_on(self):
        for function, kinds in FUNCTIONS:
            for at, kind in enumerate(kinds):
                if kind not in FEW:
                    continue
                for value, worth in FEW[kind]:
                    arguments = [RIGHT[name] for name in kinds[:at]] + [value] + [[None]] * (len(kinds) - at - 1)
                    self.fails(function, arguments, kind, worth)


class TooManyComesLast(Case):
    DEEP = (OWN,) * 9 + ((0, None, (1,)),) * 4

    def test_behind_wrong_arguments(self):
        machine, _, program = OVER_LIMIT[0]
        for function, kinds in FUNCTIONS:
            if kinds[1:2] not in (("program",), ("talk",)):
                continue
            for at, kind in list(enumerate(kinds))[2:]:
                for value, worth in FEW.get(kind, ()):
                    for other in ((PAIR, self.DEEP), (machine, program)):
                        arguments = [*other, *[RIGHT[name] for name in kinds[2:]]]
                        arguments[at] = value
                        self.fails(function, arguments, kind, worth)

    def test_behind_nothing_else(self):
        for function, kinds in FUNCTIONS:
            # The deep program is not gentle, so spared has another error for it; small_harms has it for its 13 lines.
            if kinds[1:2] in (("program",), ("talk",)) and function not in (*NOT_RUN, spared, small_harms):
                self.too_many(8, function, PAIR, self.DEEP, *[RIGHT[name] for name in kinds[2:]])

    def test_too_deep_a_gentle_program(self):
        program = (ONCE, (0, 0, (1,))) * 4 + ((0, None, (1,)),)
        self.too_many(8, spared, PAIR, program, 1, ((0, deep(8)),))
        self.fails(spared, (PAIR, program, 1, ((0, deep(7)),)), "program", None)
        self.fails(spared, (PAIR, self.DEEP, 1, ((0, 1),)), "program", None)

    def test_too_many_parts(self):
        functions = [function for function, kinds in FUNCTIONS
                     if kinds == ("machine", "wishes") and function is not wishes_text]
        self.assertEqual(len(functions), 6)
        self.assertEqual(wishes_text(PAIR, SEVENTEEN).count("f0"), 13)
        for function in functions:
            self.too_many(16, function, PAIR, SEVENTEEN)
            self.fails(function, (PAIR, SEVENTEEN + ((1, 0),)), "wishes", 2)
            self.fails(function, (LONE, SEVENTEEN), "wishes", 1)
            self.fails(function, ((5, 1), SEVENTEEN), "machine", "cells")
        for value in (*ODD_VALUES, ((0, 0, (0,)),) * 7):
            self.too_many(16, shows_shortest, PAIR, SEVENTEEN, value)
            self.too_many(16, shows_shortest_gentle, PAIR, SEVENTEEN, value)

    def test_as_many_parts_as_can_be(self):
        self.assertEqual([least_lines(PAIR, SIXTEEN), least_gentle_lines(PAIR, SIXTEEN)], [14, None])
        self.assertEqual([can_be_proof(PAIR, SIXTEEN), least_cells(PAIR, SIXTEEN)], [False, (2, 3)])
        self.assertEqual([len(shortest(PAIR, SIXTEEN)), shortest_gentle(PAIR, SIXTEEN)], [14, None])

    def test_parts_come_ahead_of_no_program(self):
        with self.assertRaises(errors.NoProgram):
            proof_program(PAIR, 1, SIXTEEN)
        self.too_many(16, proof_program, PAIR, 1, SEVENTEEN)
        self.fails(proof_program, (PAIR, 4, SEVENTEEN), "many", ())
        self.fails(proof_program, (PAIR, 4, ()), "many", ())

    def test_parts_of_a_repeated_program(self):
        self.too_many(16, is_repeat_proof, PAIR, (), 1, SEVENTEEN)
        self.assertIs(is_repeat_proof(PAIR, (), 1, SIXTEEN), False)
        self.fails(is_repeat_proof, (PAIR, (), 0, SEVENTEEN), "many", ())
        self.too_many(8, is_repeat_proof, PAIR, self.DEEP, 1, SEVENTEEN)
        self.assertIs(is_proof(PAIR, (), 1, SEVENTEEN), False)
        self.assertEqual(harm(PAIR, (), 1, SEVENTEEN), ())
        self.assertEqual(right_chance(PAIR, (), (1, 2), SEVENTEEN), (0, 1))

    def test_whatever_is_shown(self):
        for value in ODD_VALUES:
            with self.assertRaises(errors.TooMany):
                shows_harm(PAIR, self.DEEP, 1, ((0, 1),), value)

    def test_pairs_are_no_matter_of_one_run(self):
        for machine, many, program in OVER_LIMIT:
            longer = program + LEVELLING
            self.assertIs(is_gentle(machine, longer), False)
            self.assertEqual(len(run(machine, longer)), 4)
            self.assertEqual(run_lost(machine, longer, many, ()), run(machine, longer))

    def test_at_the_limit(self):
        for machine, many, program in AT_LIMIT:
            self.assertEqual(len(sure_terms(machine, program, many)), len(program) + 1)


class Exact(Case):
    """Answers are of the kinds that the document names: True, False, integers and tuples throughout."""

    def check_term(self, term):
        if term.__class__ is not int:
            self.assertIs(term.__class__, tuple)
            self.assertIs(term[0].__class__, int)
            for part in term[1:]:
                self.check_term(part)

    def test_tuples_of_terms(self):
        program = ((1, 1, (0, 1)), (0, None, (1,)), (1, 0, (1,)))
        rows = [run(PAIR, program), run_lost(PAIR, program, 1, (1,)), *outcomes(PAIR, program, 2)]
        for row in rows:
            self.assertIs(row.__class__, tuple)
            for term in row:
                self.check_term(term)

    def test_tuples_of_tuples(self):
        program = (ONCE, ONCE, OWN)
        self.assertIs(outcomes(PAIR, program, 1).__class__, tuple)
        moments = sure_terms(PAIR, program, 1)
        self.assertIs(moments.__class__, tuple)
        for row in moments:
            self.assertIs(row.__class__, tuple)
            for term in row:
                if term is not None:
                    self.check_term(term)

    def test_losses(self):
        found = harm(PAIR, (ONCE, ONCE), 2, ((1, (0, 0)),))
        self.assertIs(found.__class__, tuple)
        self.assertEqual([number.__class__ for number in found], [int, int])


if __name__ == "__main__":
    unittest.main()
