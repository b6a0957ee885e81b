"""Points 2 and 3: is_gentle, run and term_text."""

import unittest

from lostlines import machines
from lostlines.errors import TooMany
from lostlines.machines import is_gentle, run, term_text
from tests import oracle
from tests.samples import FOUR, LONE, ONCE, OWN, PAIR, cases, deep, wide


class Gentle(unittest.TestCase):
    def test_defined_in_their_file(self):
        for name in ("is_gentle", "run", "term_text"):
            self.assertEqual(getattr(machines, name).__module__, "lostlines.machines")

    def test_no_line(self):
        self.assertIs(is_gentle(LONE, ()), True)

    def test_gentle_lines(self):
        self.assertIs(is_gentle(PAIR, (ONCE, (0, 1, (1, 1)), (0, None, (1,)))), True)

    def test_a_line_that_reads_its_own_cell(self):
        self.assertIs(is_gentle(PAIR, (OWN,)), False)
        self.assertIs(is_gentle(PAIR, ((1, 1, (1, 0)),)), False)
        self.assertIs(is_gentle(PAIR, ((1, 1, (0, 1)),)), False)
        self.assertIs(is_gentle(PAIR, ((1, 1, (1, 1)),)), False)

    def test_one_is_enough_anywhere(self):
        for at in range(3):
            program = [ONCE, ONCE, ONCE]
            program[at] = OWN
            self.assertIs(is_gentle(PAIR, tuple(program)), False)

    def test_cells_and_functions_are_told_apart(self):
        self.assertIs(is_gentle(FOUR, ((2, 2, (0, 1)), (0, 0, (3,)), (1, 1, (0, 0)))), True)

    def test_does_not_run(self):
        self.assertIs(is_gentle(LONE, (OWN,) * 60), False)
        self.assertIs(is_gentle(PAIR, (ONCE, (0, 0, (1,))) * 30), True)


class Run(unittest.TestCase):
    def test_no_line(self):
        self.assertEqual(run(LONE, ()), (0,))
        self.assertEqual(run(FOUR, ()), (0, 1, 2, 3))

    def test_function_and_copy(self):
        self.assertEqual(run(PAIR, (ONCE, (0, None, (1,)))), ((0, 0), (0, 0)))
        self.assertEqual(run(PAIR, ((0, None, (1,)), ONCE)), (1, (0, 1)))
        self.assertEqual(run(FOUR, ((3, 2, (1, 0)),)), (0, 1, 2, (2, 1, 0)))
        self.assertEqual(run(FOUR, ((3, 1, (2, 2)),)), (0, 1, 2, (1, 2, 2)))

    def test_a_line_reads_before_it_sets(self):
        self.assertEqual(run(PAIR, ((0, 1, (0, 1)), (0, 1, (1, 0)))), ((1, 1, (1, 0, 1)), 1))
        self.assertEqual(run(LONE, (OWN, OWN)), ((0, (0, 0)),))

    def test_unlike_functions_are_unlike(self):
        self.assertNotEqual(run(FOUR, ((0, 1, (2, 3)),)), run(FOUR, ((0, 2, (2, 3)),)))

    def test_sixty_lines(self):
        self.assertEqual(run(PAIR, (ONCE,) * 60), (0, (0, 0)))

    def test_eight_deep(self):
        self.assertEqual(run(LONE, (OWN,) * 7), (deep(8),))
        self.assertEqual(run(PAIR, ((0, 1, (0, 0)),) * 7), (wide(8), 1))

    def test_deeper(self):
        for program in ((OWN,) * 8, (OWN,) * 7 + ((1, 1, (0, 1)),), (OWN,) * 7 + ((1, 1, (1, 0)),)):
            with self.assertRaises(TooMany) as caught:
                run(PAIR, program)
            self.assertEqual(caught.exception.most, 8)

    def test_deeper_on_the_way(self):
        with self.assertRaises(TooMany) as caught:
            run(PAIR, (OWN,) * 8 + ((0, None, (1,)),))
        self.assertEqual(caught.exception.most, 8)

    def test_copies_do_not_deepen(self):
        program = (OWN,) * 7 + ((1, None, (0,)), (0, None, (1,))) * 20
        self.assertEqual(run(PAIR, program), (deep(8), deep(8)))

    def test_eight_deep_and_anew(self):
        program = (OWN,) * 7 + ((0, None, (1,)),) + (OWN,) * 7
        self.assertEqual(run(PAIR, program), ((0, (0, (0, (0, (0, (0, (0, 1))))))), 1))

    def test_as_the_long_way(self):
        for machine, program, _ in cases(1, 300, 9):
            with self.subTest(machine=machine, program=program):
                try:
                    wanted = oracle.ran(machine, program)
                except oracle.Deep:
                    with self.assertRaises(TooMany):
                        run(machine, program)
                    continue
                self.assertEqual(run(machine, program), wanted)


class Texts(unittest.TestCase):
    def test_cells(self):
        self.assertEqual([term_text(FOUR, cell) for cell in range(4)], ["c0", "c1", "c2", "c3"])

    def test_functions(self):
        self.assertEqual(term_text(FOUR, (0, 3)), "f0(c3)")
        self.assertEqual(term_text(FOUR, (2, 3, 0)), "f2(c3,c0)")
        self.assertEqual(term_text(FOUR, (1, (0, 2), (2, 1, (0, 0)))), "f1(f0(c2),f2(c1,f0(c0)))")

    def test_eight_deep(self):
        self.assertEqual(term_text(LONE, deep(8)), "f0(f0(f0(f0(f0(f0(f0(c0)))))))")
        self.assertEqual(term_text(PAIR, wide(8)), oracle.text(wide(8)))


if __name__ == "__main__":
    unittest.main()
