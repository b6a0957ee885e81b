"""Point 44: talks, lines of which say what a cell holds."""

import random
import unittest

from lostlines import says
from lostlines.errors import BadLosses, TooMany
from lostlines.says import heard, is_told_once, sayings, sure_words, talk_proofed
from tests import oracle
from tests.at_limits import TALKS
from tests.samples import FOUR, LONE, ONCE, OWN, PAIR, deep, some_line, some_machine

BACK = (0, None, (1,))
SAY = ("say", 0)
TELL = ("say", 1)
NAMES = ("heard", "sayings", "sure_words", "is_told_once", "talk_proofed")


def some_talk(chance, machine, lines):
    """A talk of so many lines, half of which say something."""
    talk = []
    while len(talk) < lines:
        line = ("say", chance.randrange(machine[0])) if chance.randrange(2) else some_line(chance, machine)
        talk.extend([line] * chance.choice((1, 1, 2, 3)))
    return tuple(talk[:lines])


def talks(seed, count, most_lines):
    """Triples (machine, talk, many), always the same ones for the same seed."""
    chance = random.Random(seed)
    found = []
    for _ in range(count):
        machine = some_machine(chance)
        found.append((machine, some_talk(chance, machine, chance.randint(0, most_lines)), chance.randint(1, 3)))
    return found


class Case(unittest.TestCase):
    def too_many(self, most, function, *arguments):
        with self.assertRaises(TooMany) as caught:
            function(*arguments)
        self.assertEqual(caught.exception.most, most)


class Heard(Case):
    def test_defined_in_their_file(self):
        for name in NAMES:
            self.assertEqual(getattr(says, name).__module__, "lostlines.says")

    def test_nothing_said(self):
        self.assertEqual(heard(PAIR, (), 1, ()), ())
        self.assertEqual(heard(PAIR, (ONCE, BACK), 1, (0,)), ())

    def test_in_order(self):
        talk = (TELL, ONCE, TELL, SAY, BACK, SAY)
        self.assertEqual(heard(PAIR, talk, 1, ()), (1, (0, 0), 0, (0, 0)))
        self.assertEqual(heard(PAIR, talk, 1, (1,)), (1, 1, 0, 1))
        self.assertEqual(heard(PAIR, talk, 1, (0, 2, 4)), (0, 0))
        self.assertEqual(heard(PAIR, talk, 3, (0, 1, 2, 4, 5)), (0,))

    def test_not_merged(self):
        self.assertEqual(heard(PAIR, (SAY, SAY, TELL, SAY), 1, ()), (0, 0, 1, 0))
        self.assertEqual(heard(PAIR, (SAY, SAY, TELL, SAY), 1, (2,)), (0, 0, 0))

    def test_lines_that_say_count_as_neighbours(self):
        for losses in ((0, 1), (1, 2), (0, 1, 2)):
            with self.assertRaises(BadLosses):
                heard(PAIR, (SAY, ONCE, SAY), 1, losses)
        self.assertEqual(heard(PAIR, (SAY, ONCE, TELL), 2, (0, 1)), (1,))
        for losses in ((3,), (-1,), [0], None, (0, 0), (True,)):
            with self.assertRaises(BadLosses):
                heard(PAIR, (SAY, ONCE, SAY), 3, losses)

    def test_sixty_lines(self):
        self.assertEqual(heard(PAIR, (SAY,) * 60, 1, tuple(range(0, 60, 2))), (0,) * 30)
        self.assertEqual(heard(PAIR, (ONCE, TELL) * 30, 1, (1, 59)), ((0, 0),) * 28)

    def test_deeper(self):
        self.assertEqual(heard(LONE, (OWN,) * 7 + (SAY,), 1, ()), (deep(8),))
        self.too_many(8, heard, LONE, (SAY,) + (OWN,) * 8, 1, ())
        self.assertEqual(heard(LONE, (SAY,) + (OWN,) * 8, 1, (5,)), (0,))
        self.too_many(8, heard, PAIR, (OWN,) * 8 + (BACK, SAY), 1, (9,))

    def test_as_the_long_way(self):
        for machine, talk, many in talks(21, 80, 7):
            for losses in oracle.all_losses(len(talk), many):
                self.assertEqual(heard(machine, talk, many, losses), oracle.words(machine, talk, losses))


class Sayings(Case):
    def test_nothing_said(self):
        for talk in ((), (ONCE,), (ONCE, BACK) * 3):
            self.assertEqual(sayings(PAIR, talk, 2), ((),))
            self.assertEqual(sure_words(PAIR, talk, 2), ())

    def test_one_line_that_says(self):
        self.assertEqual(sayings(PAIR, (SAY,), 1), ((), (0,)))
        self.assertIsNone(sure_words(PAIR, (SAY,), 1))

    def test_said_often_enough(self):
        for many in (1, 2, 3):
            self.assertEqual(sayings(PAIR, (SAY,) * (many + 1), many), ((0,),))
            self.assertEqual(sure_words(PAIR, (SAY,) * (many + 1), many), (0,))
            self.assertIsNone(sure_words(PAIR, (SAY,) * many, many))
            self.assertEqual(sure_words(PAIR, (SAY,) * (many + 1) + (TELL,) * (many + 1), many), (0, 1))

    def test_merged_with_the_one_ahead(self):
        self.assertEqual(sayings(PAIR, (SAY, TELL, SAY), 1), ((0,), (0, 1), (0, 1, 0), (1,), (1, 0)))
        self.assertEqual(sayings(PAIR, (SAY, SAY, TELL, SAY, SAY), 1), ((0,), (0, 1, 0)))
        talk = (SAY,) * 2 + (TELL,) * 2 + (SAY,) * 2
        self.assertEqual(sure_words(PAIR, talk, 1), (0, 1, 0))

    def test_words_of_unlike_cells_that_hold_the_same(self):
        talk = ((1, None, (0,)),) * 2 + (SAY, TELL)
        self.assertEqual(sure_words(PAIR, talk, 1), (0,))
        self.assertEqual(sayings(PAIR, (SAY, (1, None, (0,)), TELL), 1), ((), (0,), (0, 1)))

    def test_what_does_not_matter_may_be_lost(self):
        self.assertEqual(sure_words(PAIR, (SAY, SAY, ONCE, BACK), 1), (0,))
        self.assertEqual(sure_words(PAIR, (ONCE, SAY, SAY), 1), (0,))
        self.assertIsNone(sure_words(PAIR, (ONCE, TELL, TELL), 1))

    def test_order_is_that_of_the_texts(self):
        talk = (SAY, ONCE, TELL, (0, 1, (1, 0)), SAY, BACK, SAY)
        found = sayings(PAIR, talk, 3)
        texts = [[oracle.text(word) for word in row] for row in found]
        self.assertEqual(texts, sorted(texts))
        self.assertGreater(len(found), 15)

    def test_sixty_lines(self):
        self.assertEqual(sure_words(PAIR, (SAY,) * 30 + (TELL,) * 30, 3), (0, 1))
        self.assertEqual(sayings(PAIR, (ONCE,) * 57 + (SAY,) * 3, 3), ((), (0,)))

    def test_as_the_long_way(self):
        for machine, talk, many in talks(22, 350, 7):
            with self.subTest(machine=machine, talk=talk, many=many):
                try:
                    rows = {oracle.merged(oracle.words(machine, talk, losses))
                            for losses in oracle.all_losses(len(talk), many)}
                except oracle.Deep:
                    self.too_many(8, sayings, machine, talk, many)
                    self.too_many(8, sure_words, machine, talk, many)
                    continue
                self.assertEqual(sayings(machine, talk, many), oracle.in_order(rows))
                self.assertEqual(sure_words(machine, talk, many), rows.pop() if len(rows) == 1 else None)

    def test_deeper(self):
        for function in (sayings, sure_words):
            self.too_many(8, function, LONE, (SAY,) * 4 + (OWN,) * 8, 3)
            self.too_many(8, function, PAIR, (OWN,) * 6 + (BACK, OWN, OWN), 1)
            function(LONE, (OWN,) * 7 + (SAY,), 1)

    def test_just_as_many_triples_and_one_more(self):
        for function in (sayings, sure_words):
            function(*TALKS[3000])
            machine, talk, many = TALKS[3001]
            function(machine, talk[:-1], many)
            self.too_many(3000, function, machine, talk, many)
            self.too_many(3000, function, machine, talk + ((0, None, (1,)), (2, None, (1,))) * 5, many)
            heard(machine, talk, many, ())


class ToldOnce(Case):
    def test_no_line_that_says(self):
        for many in (1, 2, 3):
            self.assertIs(is_told_once(PAIR, (), many), True)
            self.assertIs(is_told_once(PAIR, (ONCE, BACK) * 3, many), True)

    def test_any_line_that_says(self):
        for many in (1, 2, 3):
            for talk in ((SAY,), (SAY,) * 60, (ONCE,) * 59 + (SAY,), (SAY,) + (ONCE,) * 59, (ONCE, TELL, BACK)):
                self.assertIs(is_told_once(PAIR, talk, many), False)

    def test_as_the_long_way(self):
        for machine, talk, many in talks(23, 200, 5):
            try:
                rows = {oracle.words(machine, talk, losses) for losses in oracle.all_losses(len(talk), many)}
            except oracle.Deep:
                continue
            self.assertIs(is_told_once(machine, talk, many), len(rows) == 1)


class TalkProofed(Case):
    def test_each_line_many_and_one_times(self):
        self.assertEqual(talk_proofed(PAIR, (), 3), ())
        self.assertEqual(talk_proofed(PAIR, (ONCE, SAY), 1), (ONCE, ONCE, SAY, SAY))
        self.assertEqual(talk_proofed(PAIR, (SAY, OWN), 3), (SAY,) * 4 + (OWN,) * 4)

    def test_sixty_lines_and_more(self):
        for many, most in ((1, 30), (2, 20), (3, 15)):
            self.assertEqual(talk_proofed(PAIR, (SAY,) * most, many), (SAY,) * 60)
            self.too_many(60, talk_proofed, PAIR, (SAY,) * (most + 1), many)
            self.too_many(60, talk_proofed, PAIR, (OWN,) * 60, many)

    def test_what_a_gentle_talk_says_is_sure(self):
        for machine, talk, many in talks(24, 150, 5):
            talk = tuple(line for line in talk if line[0] == "say" or line[0] not in line[2])
            try:
                wanted = oracle.merged(heard(machine, talk, many, ()))
                found = sure_words(machine, talk_proofed(machine, talk, many), many)
            except TooMany:
                continue
            self.assertEqual(found, wanted)

    def test_does_not_run(self):
        self.assertEqual(len(talk_proofed(LONE, (OWN,) * 30, 1)), 60)
        self.assertIs(is_told_once(FOUR, ((0, 0, (0,)),) * 60, 1), True)


if __name__ == "__main__":
    unittest.main()
