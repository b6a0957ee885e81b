"""Point 12: class Bench."""

import random
import unittest

from lostlines import benches
from lostlines.benches import Bench
from lostlines.errors import BadMachine, BadProgram, BadStep, LinesError, TooMany
from tests import oracle
from tests.samples import FOUR, LONE, ODD_VALUES, ONCE, OWN, PAIR, deep, some_line, some_machine
from tests.wrongs import MACHINES, NO_LINES

BACK = (0, None, (1,))


def seen(bench):
    """All that a bench tells."""
    return bench.holds, bench.due, bench.lines, bench.losses


class Case(unittest.TestCase):
    def too_deep(self, function, *arguments):
        with self.assertRaises(TooMany) as caught:
            function(*arguments)
        self.assertEqual(caught.exception.most, 8)


class Benches(Case):
    def test_defined_in_their_file(self):
        self.assertEqual(Bench.__module__, "lostlines.benches")
        self.assertIs(benches.Bench, Bench)
        for name in ("do", "lose", "undo", "holds", "due", "lines", "losses"):
            self.assertIn(name, vars(Bench))

    def test_at_first(self):
        self.assertEqual(seen(Bench(PAIR)), ((0, 1), (0, 1), (), ()))
        self.assertEqual(seen(Bench(LONE)), ((0,), (0,), (), ()))
        self.assertEqual(seen(Bench(FOUR)), ((0, 1, 2, 3),) * 2 + ((), ()))

    def test_do(self):
        bench = Bench(PAIR)
        self.assertIsNone(bench.do(ONCE))
        self.assertEqual(seen(bench), ((0, (0, 0)), (0, (0, 0)), (ONCE,), ()))
        self.assertIsNone(bench.do(BACK))
        self.assertEqual(seen(bench), (((0, 0), (0, 0)), ((0, 0), (0, 0)), (ONCE, BACK), ()))

    def test_lose(self):
        bench = Bench(PAIR)
        self.assertIsNone(bench.lose(ONCE))
        self.assertEqual(seen(bench), ((0, 1), (0, (0, 0)), (ONCE,), (0,)))
        bench.do(BACK)
        self.assertEqual(seen(bench), ((1, 1), ((0, 0), (0, 0)), (ONCE, BACK), (0,)))
        bench.lose(BACK)
        self.assertEqual(seen(bench), ((1, 1), ((0, 0), (0, 0)), (ONCE, BACK, BACK), (0, 2)))

    def test_any_number_of_neighbours_may_be_lost(self):
        bench = Bench(PAIR)
        for _ in range(70):
            bench.lose(ONCE)
        self.assertEqual(seen(bench), ((0, 1), (0, (0, 0)), (ONCE,) * 70, tuple(range(70))))

    def test_undo(self):
        bench = Bench(PAIR)
        moments = [seen(bench)]
        for number, line in enumerate((ONCE, BACK, ONCE, OWN, BACK)):
            (bench.lose if number % 2 else bench.do)(line)
            moments.append(seen(bench))
        for moment in reversed(moments[:-1]):
            self.assertIsNone(bench.undo())
            self.assertEqual(seen(bench), moment)
        with self.assertRaises(BadStep):
            bench.undo()
        self.assertEqual(seen(bench), moments[0])
        bench.do(ONCE)
        self.assertEqual(seen(bench), moments[1])

    def test_undo_without_a_step(self):
        for machine in (LONE, PAIR, FOUR):
            bench = Bench(machine)
            for _ in range(2):
                with self.assertRaises(BadStep):
                    bench.undo()

    def test_a_lost_line_and_one_that_is_done_in_its_place(self):
        bench = Bench(PAIR)
        bench.lose(ONCE)
        bench.undo()
        bench.do(ONCE)
        bench.lose(BACK)
        self.assertEqual(seen(bench), ((0, (0, 0)), ((0, 0), (0, 0)), (ONCE, BACK), (1,)))

    def test_eight_deep_and_deeper(self):
        bench = Bench(PAIR)
        for _ in range(7):
            bench.do(OWN)
        before = seen(bench)
        self.assertEqual(before[0], (deep(8), 1))
        self.too_deep(bench.do, OWN)
        self.too_deep(bench.lose, OWN)
        self.too_deep(bench.do, ONCE)
        self.assertEqual(seen(bench), before)
        bench.do((1, None, (0,)))
        self.assertEqual(bench.holds, (deep(8), deep(8)))

    def test_only_what_is_due_is_deeper(self):
        bench = Bench(PAIR)
        bench.lose(OWN)
        for _ in range(6):
            bench.do(OWN)
        before = seen(bench)
        self.assertEqual(before[:2], ((deep(7), 1), (deep(8), 1)))
        self.too_deep(bench.do, OWN)
        self.too_deep(bench.lose, OWN)
        self.assertEqual(seen(bench), before)

    def test_only_what_is_held_is_deeper(self):
        bench = Bench(PAIR)
        for _ in range(7):
            bench.do(OWN)
        bench.lose(BACK)
        before = seen(bench)
        self.assertEqual(before[:2], ((deep(8), 1), (1, 1)))
        self.too_deep(bench.do, OWN)
        self.assertEqual(seen(bench), before)
        bench.lose(OWN)
        self.assertEqual(seen(bench)[:2], ((deep(8), 1), ((0, 1), 1)))

    def test_two_benches(self):
        one, other = Bench(PAIR), Bench(PAIR)
        one.do(ONCE)
        other.lose(OWN)
        self.assertEqual(seen(one), ((0, (0, 0)), (0, (0, 0)), (ONCE,), ()))
        self.assertEqual(seen(other), ((0, 1), ((0, 0), 1), (OWN,), (0,)))

    def test_as_the_long_way(self):
        chance = random.Random(14)
        for _ in range(120):
            machine = some_machine(chance)
            bench = Bench(machine)
            steps = []
            for _ in range(25):
                line, is_lost = some_line(chance, machine), chance.random() < 0.4
                if steps and chance.random() < 0.35:
                    steps.pop()
                    bench.undo()
                else:
                    try:
                        oracle.ran(machine, [line for line, _ in steps] + [line])
                        oracle.ran(machine, [line for line, lost in steps + [(line, is_lost)] if not lost])
                    except oracle.Deep:
                        self.too_deep(bench.lose if is_lost else bench.do, line)
                    else:
                        steps.append((line, is_lost))
                        (bench.lose if is_lost else bench.do)(line)
                self.assertEqual(bench.holds, oracle.ran(machine, [line for line, lost in steps if not lost]))
                self.assertEqual(bench.due, oracle.ran(machine, [line for line, _ in steps]))
                self.assertEqual(bench.lines, tuple(line for line, _ in steps))
                self.assertEqual(bench.losses, tuple(at for at, (_, lost) in enumerate(steps) if lost))


class Wrong(Case):
    def test_machines(self):
        for value, part in MACHINES:
            with self.subTest(value=value), self.assertRaises(BadMachine) as caught:
                Bench(value)
            self.assertEqual(caught.exception.part, part)

    def test_lines(self):
        bench = Bench(PAIR)
        bench.do(ONCE)
        bench.lose(BACK)
        before = seen(bench)
        for value in (*NO_LINES, *ODD_VALUES, (ONCE,)):
            for step in (bench.do, bench.lose):
                with self.subTest(value=value), self.assertRaises(LinesError) as caught:
                    step(value)
                self.assertIs(caught.exception.__class__, BadProgram)
                self.assertIsNone(caught.exception.index)
        self.assertEqual(seen(bench), before)

    def test_lines_of_other_machines(self):
        for line in (ONCE, (0, None, (0,)), (0, 1, (0,)), (0, 0, (0, 0))):
            with self.assertRaises(BadProgram):
                Bench(LONE).do(line)

    def test_what_it_tells_is_made_of_tuples(self):
        bench = Bench(PAIR)
        bench.lose(ONCE)
        for value in seen(bench):
            self.assertIs(value.__class__, tuple)
        for name in ("holds", "due", "lines", "losses"):
            with self.assertRaises(AttributeError):
                setattr(bench, name, ())


if __name__ == "__main__":
    unittest.main()
