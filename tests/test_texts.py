"""Points 40 and 41: programs, terms, wishes and runs as text."""

import random
import re
import unittest

from lostlines import texts
from lostlines.errors import BadLosses, BadMachine, BadText, TooMany
from lostlines.machines import term_text
from lostlines.texts import read_program, read_term, read_wishes, told, wishes_text, written
from tests import oracle
from tests.samples import FOUR, LONE, ONCE, OWN, PAIR, cases, deep, some_wishes, wide
from tests.wrongs import MACHINES

BACK = (0, None, (1,))
NAMES = ("written", "read_program", "read_term", "wishes_text", "read_wishes", "told")
NO_STRINGS = (None, True, False, 0, 1, -1, (), ("c0",), [], ["c0"], {}, {0: "c0"}, ("cells 2\n",))
SIGNS = "c0f1(),. =\n2x-3holdsnTcel \t\rA"

# Signs that Python takes for figures, blanks or ends of lines, but that are none in these texts.
ODD_SIGNS = ("\u0661", "\u00b2", "\uff11", "\u00a0", "\u2028", "\x85", "\x0b", "\x0c", "\r", "\x1c", "\x00", "\ud800")


def parse_term(machine, text):
    """The term of a text by the words of point 3, or None: each innermost term in turn becomes a sign of its own."""
    found = []

    def keep(match):
        function = int(match[1])
        parts = [found[ord(sign) - 1000] for sign in match[2].split(",")]
        if function >= len(machine[1]) or machine[1][function] != len(parts):
            return "!"
        found.append((function, *parts))
        return chr(999 + len(found))

    if any(ord(sign) >= 1000 for sign in text) or re.search("c[^0-3]|c$|[^c]c?[0-9]c", text):
        return None
    found.extend(range(machine[0]))
    text = re.sub("c([0-3])", lambda match: chr(1000 + int(match[1])) if int(match[1]) < machine[0] else "!", text)
    before = None
    while text != before:
        before = text
        text = re.sub("f([0-9])\\(([\u03e8-\u1000](?:,[\u03e8-\u1000])*)\\)", keep, text)
    if len(text) != 1 or ord(text) < 1000:
        return None
    term = found[ord(text) - 1000]
    return term if oracle.depth(term) <= 8 else None


def parse_line(machine, text):
    """The line of a text, or None."""
    match = re.fullmatch("c([0-9]) = (?:c([0-9])|f([0-9])\\(c([0-9])(?:,c([0-9]))?\\))", text)
    if match is None:
        return None
    numbers = [None if group is None else int(group) for group in match.groups()]
    if numbers[1] is not None:
        line = (numbers[0], None, (numbers[1],))
    else:
        line = (numbers[0], numbers[2], tuple(number for number in numbers[3:] if number is not None))
    return line if line in oracle.all_lines(machine) else None


def parse_program(text):
    """The machine and program of a text, or the number of its wrong line."""
    rows = text.split("\n")
    if rows[-1]:
        return len(rows) - 1
    if not re.fullmatch("cells [1-4]", rows[0]):
        return 0
    if not re.fullmatch("functions [12]( [12]){0,2}", rows[1]):
        return 1
    machine = (int(rows[0][6:]), tuple(int(reads) for reads in rows[1].split(" ")[1:]))
    lines = [parse_line(machine, row) for row in rows[2:-1]] + [None]
    wrong = min(lines.index(None), 60)
    return wrong + 2 if wrong < len(lines) - 1 else (machine, tuple(lines[:-1]))


def parse_wishes(machine, text):
    """The wishes of a text, or the number of the wrong line."""
    rows = text.split("\n")
    if rows[-1] or not text:
        return len(rows) - 1
    wishes = []
    for number, row in enumerate(rows[:-1]):
        match = re.fullmatch("c([0-3]) holds (.*)", row, re.DOTALL)
        term = match and parse_term(machine, match[2])
        if term is None or not (wishes[-1][0] if wishes else -1) < int(match[1]) < machine[0]:
            return number
        wishes.append((int(match[1]), term))
    return tuple(wishes)


def spoilt(chance, text):
    """A text with a sign taken out, put in or changed, or two lines of which change places."""
    at = chance.randrange(len(text) + 1)
    way = chance.randrange(5)
    if way == 0:
        return text[:at] + text[at + 1:]
    if way == 1:
        return text[:at] + chance.choice(SIGNS) + text[at:]
    if way == 2:
        return text[:at] + chance.choice(SIGNS) + text[at + 1:]
    if way == 3:
        return text[:at] + chance.choice(ODD_SIGNS) + text[at + chance.randrange(2):]
    rows = text.split("\n")
    chance.shuffle(rows)
    return "\n".join(rows)


class Case(unittest.TestCase):
    def bad(self, line, function, *arguments):
        with self.subTest(function=function.__name__, arguments=arguments):
            with self.assertRaises(BadText) as caught:
                function(*arguments)
            self.assertEqual((caught.exception.line.__class__, caught.exception.line), (int, line))

    def reads(self, wanted, function, *arguments):
        """The function returns what is wanted, or, for the number of a line, raises BadText with it."""
        if wanted.__class__ is int:
            self.bad(wanted, function, *arguments)
        else:
            self.assertEqual(function(*arguments), wanted)


class Programs(Case):
    def test_defined_in_their_file(self):
        for name in NAMES:
            self.assertEqual(getattr(texts, name).__module__, "lostlines.texts")

    def test_written(self):
        program = ((0, 1, (2, 3)), (3, None, (0,)), (1, 2, (1, 1)), (2, 0, (2,)))
        wanted = "cells 4\nfunctions 1 2 2\nc0 = f1(c2,c3)\nc3 = c0\nc1 = f2(c1,c1)\nc2 = f0(c2)\n"
        self.assertEqual(written(FOUR, program), wanted)
        self.assertEqual(read_program(wanted), (FOUR, program))

    def test_the_empty_program(self):
        self.assertEqual(written(LONE, ()), "cells 1\nfunctions 1\n")
        self.assertEqual(read_program("cells 1\nfunctions 1\n"), (LONE, ()))
        self.assertEqual(read_program("cells 3\nfunctions 2 2 2\n"), ((3, (2, 2, 2)), ()))

    def test_all_machines_and_all_lines(self):
        for cells in range(1, 5):
            for functions in ((1,), (2,), (1, 1), (1, 2), (2, 1), (2, 2), (1, 2, 1), (2, 1, 2), (2, 2, 2), (1, 1, 1)):
                machine = (cells, functions)
                for line in oracle.all_lines(machine):
                    self.assertEqual(read_program(written(machine, (line, line))), (machine, (line, line)))

    def test_what_is_written_is_read(self):
        for machine, program, _ in cases(25, 200, 60):
            text = written(machine, program)
            self.assertEqual(read_program(text), (machine, program))
            self.assertEqual(written(*read_program(text)), text)
            self.assertEqual(parse_program(text), (machine, program))

    def test_sixty_lines_and_more(self):
        text = "cells 2\nfunctions 1 2\n" + "c1 = f0(c0)\n" * 60
        self.assertEqual(read_program(text), (PAIR, (ONCE,) * 60))
        self.assertEqual(written(PAIR, (ONCE,) * 60), text)
        self.bad(62, read_program, text + "c1 = f0(c0)\n")
        self.bad(62, read_program, text + "c1 = f0(c0)\n" * 5)
        self.bad(62, read_program, text + "\n")
        self.bad(62, read_program, text + "x")
        self.bad(63, read_program, text + "c1 = f0(c0)\nc1 = f0(c0)")
        self.bad(61, read_program, text.replace("c1 = f0(c0)\n" * 60, "c1 = f0(c0)\n" * 59 + "c1 = f0(c2)\n" * 2))

    def test_no_string(self):
        for value in NO_STRINGS:
            self.bad(0, read_program, value)
            self.bad(0, read_term, PAIR, value)
            self.bad(0, read_wishes, PAIR, value)

    def test_the_empty_text(self):
        self.bad(0, read_program, "")
        self.bad(0, read_term, PAIR, "")
        self.bad(0, read_wishes, PAIR, "")

    def test_not_ended_by_a_newline(self):
        self.bad(0, read_program, "cells 2")
        self.bad(0, read_program, "x")
        self.bad(1, read_program, "cells 2\nfunctions 1")
        self.bad(2, read_program, "cells 2\nfunctions 1\nc0 = c1")
        self.bad(3, read_program, "\n\n\nx")
        self.bad(2, read_program, "cells 9\nx\nc0 = c1")
        self.bad(70, read_program, "x\n" * 70 + "x")

    def test_one_right_line(self):
        for cells in range(1, 5):
            self.bad(1, read_program, f"cells {cells}\n")
        self.bad(0, read_program, "cells 5\n")
        self.bad(0, read_program, "\n")

    def test_the_first_line(self):
        for row in ("", "cells", "cells ", "cells 0", "cells 5", "cells 10", "cells 02", "cells  2", " cells 2",
                    "cells 2 ", "Cells 2", "cells -1", "cells two", "cells 2\r", "cells\t2", "cells 2 2", "cell 2",
                    "functions 1"):
            self.bad(0, read_program, row + "\nfunctions 1\n")
            self.bad(0, read_program, row + "\nx\ny\n")

    def test_the_second_line(self):
        for row in ("", "functions", "functions ", "functions 0", "functions 3", "functions 1 ", "functions  1",
                    "functions 1  2", "functions 1 3", "functions 1 1 1 1", "functions 01", "functions 1,2",
                    "function 1", "functions 12", " functions 1", "functions 1\r", "functions 1\t1", "cells 2",
                    "functions x"):
            self.bad(1, read_program, f"cells 2\n{row}\n")
            self.bad(1, read_program, f"cells 2\n{row}\nc0 = c1\nx\n")

    def test_a_line_that_is_none(self):
        for row in ("", " ", "c0", "c0 =", "c0 = ", "c0=c1", "c0 = c1 ", " c0 = c1", "c0  = c1", "c0 =  c1",
                    "c0 = c1\r", "c0 = C1", "c0 == c1", "c0 = c1c1", "c0 = c01", "c00 = c1", "c = c1", "c0 = f0",
                    "c0 = f0()", "c0 = f0(c1", "c0 = f0c1)", "c0 = f0(c1))", "c0 = f0( c1)", "c0 = f1(c0, c1)",
                    "c0 = f1(c0 ,c1)", "c0 = f1(c0,c1,)", "c0 = f1(,c0)", "c0 = f1(c0;c1)", "c0 = f1(c0,c1,c1)",
                    "c0 = f00(c1)", "c0 = (c1)", "c0 = f(c1)", "c0 = f0(f0(c1))", "c0 = f0(0)", "0 = c1", "f0(c1)",
                    "c0 = 1", "c0 = c1; c1 = c0", "c0 holds c1", "c0 = f0[c1]", "c0 = None", "c0 = f-1(c1)",
                    "c-1 = c0", "cells 2", "c0 = f0(c1)c"):
            self.bad(2, read_program, f"cells 2\nfunctions 1 2\n{row}\n")
            self.bad(3, read_program, f"cells 2\nfunctions 1 2\nc0 = c1\n{row}\nc0 = c1\nx\n")

    def test_a_line_that_cannot_stand_there(self):
        for row in ("c0 = c0", "c1 = c1", "c2 = c1", "c0 = c2", "c0 = f2(c1)", "c0 = f0(c2)", "c0 = f0(c0,c1)",
                    "c0 = f1(c0)", "c9 = c0", "c0 = f9(c0)", "c0 = f1(c0,c2)", "c2 = f0(c0)"):
            self.bad(2, read_program, f"cells 2\nfunctions 1 2\n{row}\n")
        self.assertEqual(read_program("cells 2\nfunctions 1 2\nc0 = f0(c0)\n"), (PAIR, (OWN,)))
        self.assertEqual(read_program("cells 3\nfunctions 1 2 1\nc2 = f2(c2)\n"), ((3, (1, 2, 1)), ((2, 2, (2,)),)))

    def test_spoilt_texts(self):
        chance = random.Random(26)
        for machine, program, _ in cases(26, 1500, 6):
            text = spoilt(chance, written(machine, program))
            if text and "\n" in text[:-1]:
                self.reads(parse_program(text), read_program, text)


class Terms(Case):
    def test_what_term_text_tells_is_read(self):
        for machine, deepest in ((PAIR, 3), ((1, (1, 2)), 4), ((4, (1, 1, 1)), 3), (FOUR, 2)):
            for term in oracle.terms(machine, deepest):
                self.assertEqual(read_term(machine, term_text(machine, term)), term)

    def test_eight_deep_and_deeper(self):
        for term in (deep(8), wide(8), (1, deep(7), wide(7)), deep(8, 1)):
            self.assertEqual(read_term(PAIR, oracle.text(term)), term)
        for term in (deep(9), wide(9), (1, deep(7), wide(8)), (1, deep(8), 0)):
            self.bad(0, read_term, PAIR, oracle.text(term))
        for text in ("f0(" * 5000, "f0(" * 5000 + "c0" + ")" * 5000, "f1(c0," * 5000, "c0" * 5000, ")" * 5000):
            self.bad(0, read_term, PAIR, text)

    def test_no_terms(self):
        for text in ("c2", "c9", "c", "c00", "c0 ", " c0", "c0\n", "C0", "0", "f0", "f0()", "f0(c0", "f0c0)",
                     "f0(c0))", "f0(c0,c1)", "f1(c0)", "f1(c0,)", "f1(,c0)", "f1(c0 ,c1)", "f1(c0, c1)",
                     "f1(c0,c1,c0)", "f2(c0)", "f9(c0)", "f0(c2)", "f0(f0(c2))", "f1(c0,f0(c2))", "f1(f0(),c0)",
                     "(c0)", "f0(c0)c0", "f0 (c0)", "f0[c0]", "f1(c0;c1)", "f00(c0)", "f-1(c0)", "f0((c0))",
                     "c0,c1", "f1(c0c1)", "f0(f)", "f0(c)", "\n", "f1(f1(c0,c1),f1(c0)", "f1(f1(c0,c1),f1(c0,c1)",
                     "f0(c0)\n", "f0(C0)", "F0(c0)", "f0(c0.)", "f"):
            self.bad(0, read_term, PAIR, text)

    def test_of_this_machine_alone(self):
        self.assertEqual(read_term(FOUR, "f2(c3,f1(c2,c0))"), (2, 3, (1, 2, 0)))
        self.bad(0, read_term, PAIR, "c3")
        self.bad(0, read_term, LONE, "c1")
        self.bad(0, read_term, (2, (2, 1)), "f0(c0)")
        self.assertEqual(read_term((2, (2, 1)), "f1(c0)"), (1, 0))

    def test_spoilt_terms(self):
        chance = random.Random(27)
        for _ in range(1500):
            term = chance.choice(oracle.terms(PAIR, 3))
            text = spoilt(chance, oracle.text(term))
            wanted = parse_term(PAIR, text)
            if wanted is None:
                self.bad(0, read_term, PAIR, text)
            else:
                self.assertEqual(read_term(PAIR, text), wanted)

    def test_the_machine_comes_first(self):
        for function in (read_term, read_wishes):
            for value, part in MACHINES:
                for text in ("c0", "c0 holds c0\n", "", None):
                    with self.assertRaises(BadMachine) as caught:
                        function(value, text)
                    self.assertEqual(caught.exception.part, part)


class Wishes(Case):
    def test_wishes_text(self):
        self.assertEqual(wishes_text(PAIR, ((0, 1),)), "c0 holds c1\n")
        wishes = ((0, (0, 3)), (2, 2), (3, (2, (1, 0, 1), 0)))
        text = "c0 holds f0(c3)\nc2 holds c2\nc3 holds f2(f1(c0,c1),c0)\n"
        self.assertEqual(wishes_text(FOUR, wishes), text)
        self.assertEqual(read_wishes(FOUR, text), wishes)

    def test_what_is_written_is_read(self):
        chance = random.Random(28)
        for machine, program, _ in cases(28, 300, 4):
            wishes = some_wishes(chance, machine, oracle.ran(machine, program))
            text = wishes_text(machine, wishes)
            self.assertEqual(read_wishes(machine, text), wishes)
            self.assertEqual(parse_wishes(machine, text), wishes)

    def test_eight_deep_and_deeper(self):
        for term in (deep(8), wide(8)):
            self.assertEqual(read_wishes(PAIR, f"c0 holds c0\nc1 holds {oracle.text(term)}\n"), ((0, 0), (1, term)))
        for term in (deep(9), wide(9)):
            self.bad(1, read_wishes, PAIR, f"c0 holds c0\nc1 holds {oracle.text(term)}\n")

    def test_not_ended_by_a_newline(self):
        self.bad(0, read_wishes, PAIR, "c0 holds c0")
        self.bad(1, read_wishes, PAIR, "c0 holds c0\nc1 holds c1")
        self.bad(2, read_wishes, PAIR, "x\ny\nz")

    def test_cells_that_do_not_ascend(self):
        self.bad(1, read_wishes, PAIR, "c0 holds c0\nc0 holds c0\n")
        self.bad(1, read_wishes, PAIR, "c1 holds c0\nc0 holds c0\n")
        self.bad(2, read_wishes, FOUR, "c1 holds c0\nc3 holds c0\nc2 holds c0\n")
        self.bad(4, read_wishes, FOUR, "".join(f"c{cell} holds c0\n" for cell in range(4)) + "c3 holds c0\n")
        self.assertEqual(len(read_wishes(FOUR, "".join(f"c{cell} holds c0\n" for cell in range(4)))), 4)

    def test_a_line_that_is_no_wish(self):
        for row in ("", "c0", "c0 holds", "c0 holds ", "c0 holds  c1", "c0  holds c1", " c0 holds c1",
                    "c0 holds c1 ", "c0 holds c2", "c2 holds c0", "c9 holds c0", "c0 hold c1", "c0 Holds c1",
                    "c0 = c1", "c00 holds c1", "c0 holds f0(c0", "c0 holds f0(c0,c1)", "c0 holds f2(c0)",
                    "c0\tholds c1", "c0 holds c1\r", "holds c1", "0 holds c1", "c0 holds 1", "c holds c1",
                    "c0holds c1", "c0 holdsc1", "c0 holds c0 c1"):
            self.bad(0, read_wishes, PAIR, row + "\nc1 holds c0\n")
            self.bad(0, read_wishes, PAIR, row + "\nx\n")
            self.bad(1, read_wishes, PAIR, f"c0 holds c0\n{row}\n")

    def test_spoilt_wishes(self):
        chance = random.Random(29)
        for machine, program, _ in cases(29, 1500, 4):
            wishes = some_wishes(chance, machine, oracle.ran(machine, program))
            text = spoilt(chance, wishes_text(machine, wishes))
            self.reads(parse_wishes(machine, text), read_wishes, machine, text)


class Told(Case):
    def test_no_line(self):
        self.assertEqual(told(PAIR, (), 1, ()), "")

    def test_a_run(self):
        wanted = "0 c1 = f0(c0) : c0 f0(c0)\n1 lost c1 = f0(c1) : c0 f0(c0)\n2 c0 = c1 : f0(c0) f0(c0)\n"
        self.assertEqual(told(PAIR, (ONCE, (1, 0, (1,)), BACK), 1, (1,)), wanted)
        self.assertEqual(told(LONE, (OWN,), 2, ()), "0 c0 = f0(c0) : f0(c0)\n")
        self.assertEqual(told(LONE, (OWN,), 2, (0,)), "0 lost c0 = f0(c0) : c0\n")

    def test_numbers_of_two_figures(self):
        text = told(PAIR, (ONCE,) * 60, 3, (0, 1, 2, 57, 58, 59))
        self.assertEqual(text.count("\n"), 60)
        self.assertIn("\n3 c1 = f0(c0) : c0 f0(c0)\n", text)
        self.assertTrue(text.endswith("\n56 c1 = f0(c0) : c0 f0(c0)\n" + "".join(
            f"{number} lost c1 = f0(c0) : c0 f0(c0)\n" for number in (57, 58, 59))))

    def test_as_the_long_way(self):
        chance = random.Random(30)
        for machine, program, many in cases(30, 150, 9):
            losses = chance.choice(oracle.all_losses(len(program), many))
            rows = []
            try:
                for number, line in enumerate(program):
                    head = written(machine, (line,)).split("\n")[2]
                    held = oracle.ran(machine, oracle.left(program[:number + 1], losses))
                    lost = " lost " if number in losses else " "
                    rows.append(f"{number}{lost}{head} : {' '.join(oracle.text(term) for term in held)}\n")
            except oracle.Deep:
                with self.assertRaises(TooMany):
                    told(machine, program, many, losses)
                continue
            self.assertEqual(told(machine, program, many, losses), "".join(rows))

    def test_errors(self):
        for losses in ((0, 1), (3,), (-1,), [0], None, (0, 0)):
            with self.assertRaises(BadLosses):
                told(PAIR, (ONCE, OWN, BACK), 1, losses)
        with self.assertRaises(TooMany) as caught:
            told(LONE, (OWN,) * 9, 1, (4,))
        self.assertEqual(caught.exception.most, 8)
        self.assertEqual(told(LONE, (OWN,) * 8, 1, (4,)).count("\n"), 8)


if __name__ == "__main__":
    unittest.main()
