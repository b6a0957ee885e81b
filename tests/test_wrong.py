"""Point 1, and the errors of points 2 to 5: wrong values for each argument, two at once, and which error comes first."""

import copy
import unittest
from itertools import combinations

from lostlines import errors
from lostlines.losses import harm, is_proof, is_repeat_proof, outcomes, run_lost, shows_harm, sure_terms
from lostlines.machines import is_gentle, run, term_text
from tests.samples import AT_LIMIT, FOUR, LEVELLING, LONE, ODD_VALUES, ONCE, OVER_LIMIT, OWN, PAIR, deep, wide

# What an argument is, by its place in each function.
FUNCTIONS = (
    (is_gentle, ("machine", "program")),
    (run, ("machine", "program")),
    (term_text, ("machine", "term")),
    (run_lost, ("machine", "program", "many", "losses")),
    (outcomes, ("machine", "program", "many")),
    (sure_terms, ("machine", "program", "many")),
    (is_proof, ("machine", "program", "many", "wishes")),
    (harm, ("machine", "program", "many", "wishes")),
    (shows_harm, ("machine", "program", "many", "wishes", "value")),
    (is_repeat_proof, ("machine", "program", "many", "wishes")),
)

RIGHT = {
    "machine": PAIR, "program": (ONCE, ONCE, (0, None, (1,)), ONCE, ONCE), "term": (0, 1), "many": 1,
    "losses": (0,), "wishes": ((0, 0), (1, 1)), "value": (0,),
}

MACHINES = (
    (None, "machine"), (True, "machine"), (2, "machine"), ("ab", "machine"), ((), "machine"), ((2,), "machine"),
    ([2, (1, 2)], "machine"), ((2, (1, 2), 0), "machine"), ({0: 2, 1: (1, 2)}, "machine"), (((2, (1, 2)),), "machine"),
    ((0, (1, 2)), "cells"), ((-1, (1, 2)), "cells"), ((5, (1, 2)), "cells"), ((True, (1, 2)), "cells"),
    ((None, (1, 2)), "cells"), (("2", (1, 2)), "cells"), (((2,), (1, 2)), "cells"), (([], (1, 2)), "cells"),
    ((0, ()), "cells"), ((5, [1]), "cells"), ((False, None), "cells"),
    ((2, ()), "functions"), ((2, (1, 1, 1, 1)), "functions"), ((2, [1, 2]), "functions"), ((2, 1), "functions"),
    ((2, None), "functions"), ((2, "12"), "functions"), ((2, {1: 2}), "functions"), ((2, (0,)), "functions"),
    ((2, (1, 3)), "functions"), ((2, (3, 1)), "functions"), ((2, (1, 2, 0)), "functions"), ((2, (-1,)), "functions"),
    ((2, (True, 2)), "functions"), ((2, (1, True)), "functions"), ((2, (None,)), "functions"),
    ((2, ("1",)), "functions"), ((2, ((1,),)), "functions"), ((2, ([1],)), "functions"),
)

NO_LINES = (
    None, True, 0, "c0 = c1", (), (1,), (1, 0), [1, 0, (0,)], (1, 0, (0,), 0), {0: 1, 1: 0, 2: (0,)}, ((1, 0, (0,)),),
    # The cell:
    (2, 0, (0,)), (-1, 0, (0,)), (True, 0, (0,)), (False, 0, (1,)), (None, 0, (0,)), ("1", 0, (0,)), ((1,), 0, (0,)),
    # The function:
    (1, 2, (0,)), (1, -1, (0, 0)), (1, False, (0,)), (1, True, (0, 0)), (1, "0", (0,)), (1, (0,), (0,)), (1, [], (0,)),
    # The sources:
    (1, 0, 0), (1, 0, None), (1, 0, [0]), (1, 0, "0"), (1, 0, {0: 0}), (1, 0, ()), (1, 0, (0, 0)), (1, 1, (0,)),
    (1, 1, (0, 0, 0)), (1, 1, ()), (1, 0, (2,)), (1, 0, (-1,)), (1, 1, (0, 2)), (1, 1, (2, 0)), (1, 1, (0, -1)),
    (1, 0, (False,)), (1, 1, (0, True)), (1, 0, (None,)), (1, 0, ("0",)), (1, 0, ((0,),)), (1, 1, (0, [])),
    # Copies:
    (0, None, (0,)), (1, None, (1,)), (1, None, ()), (1, None, (0, 0)), (1, None, (0, 1)), (1, None, 0),
    (1, None, [0]), (1, None, (2,)), (1, None, (-1,)), (1, None, (False,)), (1, None, None), (2, None, (0,)),
)

PROGRAMS = (
    (None, None), (False, None), (0, None), ("", None), ([], None), ([ONCE], None), ({}, None), ({0: ONCE}, None),
    ((ONCE,) * 61, None), ((ONCE,) * 200, None), ((None,) * 61, None), ((ONCE,) * 60 + (None,), None),
    (ONCE, 0), ((None,), 0), ((ONCE, None), 1), ((ONCE, None, ONCE, None), 1), ((ONCE,) * 59 + (None,), 59),
) + tuple(((line,), 0) for line in NO_LINES) + tuple(((ONCE, ONCE, line, None), 2) for line in NO_LINES)

NUMBERS = tuple((value, ()) for value in (
    0, 4, -1, 100, True, False, None, "", "1", (), (1,), [], [1], {}, {1: 1}))

LOSSES = tuple((value, ()) for value in (
    None, True, 0, 1, "0", [], [0], {}, {0: 0}, ((),), ((0,),), (None,), ("0",), ([],), (True,), (False,), (0, True),
    (5,), (-1,), (0, 5), (-1, 1), (0, 0), (2, 0), (0, 3, 2), (4, 1), (0, 1), (3, 4), (0, 2, 3), (0, 1, 2, 3, 4),
    (0, None), (0, "2"), (0, (2,)), (0, [2])))

NO_TERMS = (
    None, True, False, -1, 2, 4, "", "c0", "0", (), (0,), [0, 0], [], {}, {0: 0}, (0, 0, 0), (1, 0), (1, 0, 0, 0),
    (2, 0), (-1, 0, 0), (-2, 0), (True, 0, 0), (False, 0), (None, 0), ("0", 0), ((0,), 0), (0, 2), (0, -1), (0, None),
    (0, True), (0, "0"), (0, [0, 0]), (0, ()), (0, (0,)), (0, (0, 0, 0)), (1, 0, 2), (1, 2, 0), (1, 0, False),
    (1, (0, 0), (0, (0, 5))), (1, (0, True), 0), deep(9), wide(9), (0, wide(8)), (1, 0, deep(8)), (1, deep(8), 0),
    deep(400),
)

TERMS = tuple((value, ()) for value in NO_TERMS)

NO_WISHES = (
    None, True, 0, "", (), (0,), [0, 0], (0, 0, 0), {0: 0}, ((0, 0),), (2, 0), (-1, 0), (True, 0), (False, 0),
    (None, 0), ("0", 0), ((0,), 0), ([], 0),
) + tuple((0, term) for term in NO_TERMS)

WISHES = (
    (None, None), (True, None), (0, None), ("", None), ((), None), ([], None), ([(0, 0)], None), ({}, None),
    ({0: 0}, None),
    ((0, 0), 0), (((0, 0), None), 1), (((0, 0), (0, 0)), 1), (((0, 0), (0, 1)), 1), (((1, 0), (0, 0)), 1),
    (((1, 0), (1, 1), (0, 0)), 1), (((0, 0), (1, 1), (1, 1)), 2), (((0, 0), (1, 1), (2, 0)), 2),
    (((0, 0), (1, 1), (0, 0)), 2), (((0, 5), (0, 0)), 0), (((1, 1), (1, 5)), 1),
) + tuple(((wish,), 0) for wish in NO_WISHES) + tuple(((wish, (1, 1), None), 0) for wish in NO_WISHES)
WISHES += tuple((((0, 0), (1, wish[1])), 1) for wish in NO_WISHES if isinstance(wish, tuple) and wish[:1] == (0,)
                and len(wish) == 2 and wish[1] != 0)

# For each kind of argument: its error, the name of the error's field, and pairs of a wrong value and the field.
WRONG = {
    "machine": (errors.BadMachine, "part", MACHINES),
    "program": (errors.BadProgram, "index", PROGRAMS),
    "term": (errors.BadTerm, None, TERMS),
    "many": (errors.BadNumber, None, NUMBERS),
    "losses": (errors.BadLosses, None, LOSSES),
    "wishes": (errors.BadWishes, "index", WISHES),
}

FEW = {
    "machine": ((7, "machine"), ((9, ()), "cells"), ((2, ()), "functions")),
    "program": ((7, None), ((ONCE, 7), 1)),
    "term": ((None, ()), (deep(9), ())),
    "many": ((0, ()), (True, ()), (None, ())),
    "losses": ((None, ()), ((0, 1), ()), ((60,), ())),
    "wishes": ((None, None), ((), None), (((0, 0), (0, 0)), 1)),
}


class Case(unittest.TestCase):
    def fails(self, function, arguments, kind, worth):
        """The error of this kind of argument is raised with this field."""
        error, field, _ = WRONG[kind]
        with self.subTest(function=function.__name__, arguments=arguments):
            with self.assertRaises(errors.LinesError) as caught:
                function(*arguments)
            self.assertIs(caught.exception.__class__, error)
            if field is not None:
                found = getattr(caught.exception, field)
                self.assertEqual((found.__class__, found), (worth.__class__, worth))


class OneWrong(Case):
    def test_right_values(self):
        for function, kinds in FUNCTIONS:
            function(*[RIGHT[kind] for kind in kinds])

    def test_each_wrong_value(self):
        for function, kinds in FUNCTIONS:
            for at, kind in enumerate(kinds):
                for value, worth in WRONG.get(kind, ((), (), ()))[2]:
                    arguments = [RIGHT[name] for name in kinds]
                    arguments[at] = value
                    self.fails(function, arguments, kind, worth)

    def test_nothing_is_modified(self):
        for function, kinds in FUNCTIONS:
            for at, kind in enumerate(kinds):
                for value in (*ODD_VALUES, [ONCE], [[0, 0]], [0], {"a": [0]}):
                    arguments = [RIGHT[name] for name in kinds]
                    arguments[at] = copy.deepcopy(value)
                    before = copy.deepcopy(arguments)
                    try:
                        function(*arguments)
                    except errors.LinesError:
                        pass
                    self.assertEqual(repr(arguments), repr(before))

    def test_equal_arguments_equal_answers(self):
        for function, kinds in FUNCTIONS:
            arguments = [RIGHT[kind] for kind in kinds]
            self.assertEqual(function(*arguments), function(*copy.deepcopy(arguments)))


class Limits(Case):
    """The last values that are right, beside the first that are wrong."""

    def test_machines(self):
        for cells in range(1, 5):
            for functions in ((1,), (2,), (1, 2), (2, 2, 1)):
                self.assertEqual(run((cells, functions), ()), tuple(range(cells)))

    def test_programs(self):
        self.fails(run, (PAIR, (ONCE,) * 61), "program", None)
        self.assertEqual(run(PAIR, (ONCE,) * 60), (0, (0, 0)))
        self.fails(run, (LONE, ((0, None, (0,)),)), "program", 0)
        self.fails(run, (LONE, ((0, 0, (1,)),)), "program", 0)
        self.fails(run, (LONE, ((0, 1, (0,)),)), "program", 0)
        self.fails(run, (FOUR, ((3, 2, (3, 3)), (3, 3, (3, 3)))), "program", 1)
        self.fails(run, (FOUR, ((3, 2, (3, 3)), (4, 2, (3, 3)))), "program", 1)
        self.assertEqual(run(FOUR, ((3, 2, (3, 0)), (0, None, (3,)))), ((2, 3, 0), 1, 2, (2, 3, 0)))

    def test_numbers(self):
        for many in (1, 2, 3):
            self.assertEqual(outcomes(PAIR, (), many), ((0, 1),))

    def test_losses(self):
        program = (ONCE,) * 8
        for many in (1, 2, 3):
            for first in range(9 - many):
                self.assertEqual(run_lost(PAIR, program, many, tuple(range(first, first + many))), (0, (0, 0)))
            for first in range(8 - many):
                losses = tuple(range(first, first + many + 1))
                self.fails(run_lost, (PAIR, program, many, losses), "losses", ())
            for losses in ((0, 0), (2, 2, 4), (2, 4, 4), (4, 2), (1, 0), (0, 4, 2)):
                self.fails(run_lost, (PAIR, program, many, losses), "losses", ())
        self.fails(run_lost, (PAIR, program, 1, (8,)), "losses", ())
        self.fails(run_lost, (PAIR, (), 1, (0,)), "losses", ())

    def test_terms(self):
        self.fails(term_text, (LONE, 1), "term", ())
        self.fails(term_text, (LONE, (1, 0)), "term", ())
        self.fails(term_text, (FOUR, (3, 0)), "term", ())
        self.assertEqual(term_text(PAIR, (1, wide(7), deep(7))).count("c0"), 65)

    def test_wishes(self):
        self.assertIs(is_proof(PAIR, (), 1, ((0, 0), (1, deep(8)))), False)
        self.fails(is_proof, (PAIR, (), 1, ((0, 0), (1, deep(9)))), "wishes", 1)
        self.fails(is_proof, (LONE, (), 1, ((0, 0), (1, 0))), "wishes", 1)
        self.assertIs(is_proof(FOUR, (), 1, ((0, 0), (1, 1), (2, 2), (3, 3))), True)
        self.assertIs(is_proof(FOUR, (), 1, ((1, 1), (3, 3))), True)
        self.fails(is_proof, (FOUR, (), 1, ((1, 1), (3, 3), (2, 2))), "wishes", 2)


class TwoWrong(Case):
    def test_the_leftmost_argument(self):
        for function, kinds in FUNCTIONS:
            known = [at for at, kind in enumerate(kinds) if kind in FEW]
            for left, right in combinations(known, 2):
                for value, worth in FEW[kinds[left]]:
                    for other, _ in FEW[kinds[right]]:
                        arguments = [RIGHT[kind] for kind in kinds]
                        arguments[left] = value
                        arguments[right] = other
                        self.fails(function, arguments, kinds[left], worth)

    def test_all_wrong_from_one_on(self):
        for function, kinds in FUNCTIONS:
            for at, kind in enumerate(kinds):
                if kind not in FEW:
                    continue
                for value, worth in FEW[kind]:
                    arguments = [RIGHT[name] for name in kinds[:at]] + [value] + [[None]] * (len(kinds) - at - 1)
                    self.fails(function, arguments, kind, worth)


class TooManyComesLast(Case):
    DEEP = (OWN,) * 9 + ((0, None, (1,)),) * 4

    def test_behind_wrong_arguments(self):
        machine, _, program = OVER_LIMIT[0]
        for function, kinds in FUNCTIONS:
            if "program" not in kinds:
                continue
            for at, kind in list(enumerate(kinds))[2:]:
                for value, worth in FEW.get(kind, ()):
                    for other in ((PAIR, self.DEEP), (machine, program)):
                        arguments = [*other, *[RIGHT[name] for name in kinds[2:]]]
                        arguments[at] = value
                        self.fails(function, arguments, kind, worth)

    def test_behind_nothing_else(self):
        for function, kinds in FUNCTIONS:
            if "program" not in kinds or function is is_gentle:
                continue
            arguments = [PAIR, self.DEEP, *[RIGHT[name] for name in kinds[2:]]]
            with self.subTest(function.__name__), self.assertRaises(errors.TooMany) as caught:
                function(*arguments)
            self.assertEqual(caught.exception.most, 8)

    def test_whatever_is_shown(self):
        for value in ODD_VALUES:
            with self.assertRaises(errors.TooMany):
                shows_harm(PAIR, self.DEEP, 1, ((0, 1),), value)

    def test_pairs_are_no_matter_of_one_run(self):
        for machine, many, program in OVER_LIMIT:
            longer = program + LEVELLING
            self.assertIs(is_gentle(machine, longer), False)
            self.assertEqual(len(run(machine, longer)), 4)
            self.assertEqual(run_lost(machine, longer, many, ()), run(machine, longer))

    def test_at_the_limit(self):
        for machine, many, program in AT_LIMIT:
            self.assertEqual(len(sure_terms(machine, program, many)), len(program) + 1)


class Exact(Case):
    """Answers are of the kinds that the document names: True, False, integers and tuples throughout."""

    def check_term(self, term):
        if term.__class__ is not int:
            self.assertIs(term.__class__, tuple)
            self.assertIs(term[0].__class__, int)
            for part in term[1:]:
                self.check_term(part)

    def test_tuples_of_terms(self):
        program = ((1, 1, (0, 1)), (0, None, (1,)), (1, 0, (1,)))
        rows = [run(PAIR, program), run_lost(PAIR, program, 1, (1,)), *outcomes(PAIR, program, 2)]
        for row in rows:
            self.assertIs(row.__class__, tuple)
            for term in row:
                self.check_term(term)

    def test_tuples_of_tuples(self):
        program = (ONCE, ONCE, OWN)
        self.assertIs(outcomes(PAIR, program, 1).__class__, tuple)
        moments = sure_terms(PAIR, program, 1)
        self.assertIs(moments.__class__, tuple)
        for row in moments:
            self.assertIs(row.__class__, tuple)
            for term in row:
                if term is not None:
                    self.check_term(term)

    def test_losses(self):
        found = harm(PAIR, (ONCE, ONCE), 2, ((1, (0, 0)),))
        self.assertIs(found.__class__, tuple)
        self.assertEqual([number.__class__ for number in found], [int, int])


if __name__ == "__main__":
    unittest.main()
