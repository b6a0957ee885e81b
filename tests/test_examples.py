"""The examples of the document's interface, word for word."""

import unittest

MACHINES = """
>>> from lostlines.machines import is_gentle, run, term_text
>>> pair = (2, (1, 2))
>>> [run(pair, ((1, 0, (0,)), (0, 1, (0, 1)))), is_gentle(pair, ((0, 1, (0, 1)),)), term_text(pair, (1, 0, (0, 1)))]
[((1, 0, (0, 0)), (0, 0)), False, 'f1(c0,f0(c1))']
>>> run(pair, ((0, None, (0,)),))
raises BadProgram(index=0)
"""

LOSSES = """
>>> from lostlines.losses import harm, is_proof, is_repeat_proof, outcomes, run_lost, shows_harm, sure_terms
>>> pair = (2, (1, 2))
>>> once = (1, 0, (0,))
>>> [run_lost(pair, (once, once), 1, (0,)), outcomes(pair, (once,), 1), sure_terms(pair, (once, once), 1)]
[(0, (0, 0)), ((0, 1), (0, (0, 0))), ((0, 1), (0, None), (0, (0, 0)))]
>>> [is_proof(pair, (once, once), 1, ((1, (0, 0)),)), harm(pair, (once, once), 2, ((1, (0, 0)),)), shows_harm(pair, (once,), 1, ((1, (0, 0)),), (0,))]
[True, (0, 1), True]
>>> [is_repeat_proof(pair, (once,), 3, ((1, (0, 0)),)), is_repeat_proof(pair, ((0, 0, (0,)),), 1, ((0, (0, 0)),))]
[True, False]
>>> run_lost(pair, (once, once), 1, (0, 1))
raises BadLosses()
"""

SEARCHES = """
>>> from lostlines.searches import can_be_proof, least_cells, least_gentle_lines, least_lines, proof_program, proofed, shortest, shortest_gentle
>>> from lostlines.searches import shows_shortest, shows_shortest_gentle, with_spare
>>> lone = (1, (1,))
>>> pair = (2, (1, 2))
>>> own = ((0, (0, 0)),)
>>> [shortest(lone, own), shortest_gentle(lone, own), can_be_proof(lone, own), can_be_proof(pair, own), least_lines(pair, own), least_gentle_lines(pair, own)]
[((0, 0, (0,)),), None, False, True, 1, 2]
>>> [least_cells(lone, own), proofed(pair, ((1, 0, (0,)),), 1), with_spare(lone, ((0, 0, (0,)),))]
[(1, 2), ((1, 0, (0,)), (1, 0, (0,))), ((2, (1,)), ((1, 0, (0,)), (0, None, (1,))))]
>>> [shows_shortest(pair, own, ((0, 0, (0,)),)), shows_shortest_gentle(pair, own, ((0, 0, (0,)),)), proofed(pair, ((1, 0, (0,)),), 2)]
[True, False, ((1, 0, (0,)), (1, 0, (0,)), (1, 0, (0,)))]
>>> proof_program(lone, 1, own)
raises NoProgram()
"""

COPIES = """
>>> from lostlines.copies import right_chance, spared
>>> pair = (2, (1, 2))
>>> once = (1, 0, (0,))
>>> [spared(pair, (once,), 1, ((1, (0, 0)),)), spared(pair, (once,), 2, ((0, 0),)), right_chance(pair, (once, once), (1, 3), ((1, (0, 0)),))]
[((2,),), ((1,),), (8, 9)]
>>> right_chance(pair, (once,), (2, 1), ((0, 0),))
raises BadChance()
"""

BENCHES = """
>>> from lostlines.benches import Bench
>>> bench = Bench((2, (1,)))
>>> [bench.do((1, 0, (0,))), bench.lose((0, None, (1,))), bench.holds, bench.due, bench.losses, bench.undo(), bench.lines]
[None, None, (0, (0, 0)), ((0, 0), (0, 0)), (1,), None, ((1, 0, (0,)),)]
>>> bench.do((0, 0, (2,)))
raises BadProgram(index=None)
"""

LEASTS = """
>>> from lostlines.leasts import least_proof_lines, shows_least_proof
>>> machine, wishes = (2, (1,)), ((1, (0, 0)),)
>>> [least_proof_lines(machine, 1, wishes), shows_least_proof(machine, 1, wishes, ((1, 0, (0,)),) * 2), least_proof_lines((1, (1,)), 1, ((0, (0, 0)),))]
[2, True, None]
"""

SURES = """
>>> from lostlines.sures import core, getting_sure, most_borne
>>> machine, line = (2, (1,)), (1, 0, (0,))
>>> [getting_sure(machine, (line,) * 3, 1), core(machine, (line,) * 3, 1), most_borne(machine, (line,) * 3, ((1, (0, 0)),))]
[(1,), ((1, 0, (0,)),), 2]
"""

LEAVINGS = """
>>> from lostlines.leavings import least_within, needless
>>> machine, line = (2, (1,)), (1, 0, (0,))
>>> [needless(machine, (line,) * 3, 1, ((1, (0, 0)),)), least_within(machine, (line,) * 3, 1, ((1, (0, 0)),))]
[(0, 1, 2), ((0, 1), (0, 2), (1, 2))]
"""

COUNTS = """
>>> from lostlines.counts import count_losses, harm_counts, right_losses, small_harms
>>> machine, program = (2, (1,)), ((1, 0, (0,)), (0, 0, (0,)), (1, 0, (0,)))
>>> [count_losses(3, 1), right_losses(machine, program, 1, ((1, (0, 0)),)), harm_counts(machine, program, 1, ((1, (0, 0)),)), small_harms(machine, program, 1, ((1, (0, 0)),))]
[5, 2, (1, 1, 1, 0), ((),)]
"""

FORGETS = """
>>> from lostlines.forgets import bearing, bears_forgetting, can_bear
>>> machine, wishes = (3, (1,)), ((1, (0, 0)),)
>>> [can_bear(machine, (0,), wishes), can_bear(machine, (2,), wishes), bears_forgetting(machine, ((2, 0, (0,)), (1, None, (2,))), (2,), wishes), len(bearing(machine, (2,), wishes))]
[False, True, False, 1]
"""

RELAYS = """
>>> from lostlines.relays import relay_outcomes, relay_sure
>>> machine, line = (2, (1,)), (1, 0, (0,))
>>> [relay_sure(machine, ((((line,) * 2), (0, 1)), (((0, None, (1,)),), (0, 1))), 1), relay_outcomes(machine, (((line,), (0, 1)), ((), (1,))), 1)]
[(None, (0, 0)), ((1,), ((0, 0),))]
"""

BOTHS = """
>>> from lostlines.boths import is_both_proof
>>> machine, line = (2, (1,)), (1, 0, (0,))
>>> [is_both_proof(machine, (line,) * 2, 1, ((1, (0, 0)),)), is_both_proof(machine, (line,), 1, ((1, (0, 0)),))]
[True, False]
"""


def answer(code, names):
    """What an example's line shows: its value, or the error that it raises with its fields."""
    try:
        return repr(eval(code, names))
    except ValueError as error:
        fields = ", ".join(f"{name}={worth!r}" for name, worth in vars(error).items())
        return f"raises {type(error).__name__}({fields})"


class Examples(unittest.TestCase):
    def check(self, text):
        names = {}
        rows = text.strip().split("\n") + [">>> "]
        shown = 0
        for row, below in zip(rows, rows[1:]):
            code = row.removeprefix(">>> ")
            if row == code:
                continue
            if below.startswith(">>> "):
                exec(code, names)
            else:
                self.assertEqual(answer(code, names), below)
                shown += 1
        return shown

    def test_machines(self):
        self.assertEqual(self.check(MACHINES), 2)

    def test_losses(self):
        self.assertEqual(self.check(LOSSES), 4)

    def test_searches(self):
        self.assertEqual(self.check(SEARCHES), 4)

    def test_copies(self):
        self.assertEqual(self.check(COPIES), 2)

    def test_benches(self):
        self.assertEqual(self.check(BENCHES), 2)

    def test_leasts(self):
        self.assertEqual(self.check(LEASTS), 1)

    def test_sures(self):
        self.assertEqual(self.check(SURES), 1)

    def test_leavings(self):
        self.assertEqual(self.check(LEAVINGS), 1)

    def test_counts(self):
        self.assertEqual(self.check(COUNTS), 1)

    def test_forgets(self):
        self.assertEqual(self.check(FORGETS), 1)

    def test_relays(self):
        self.assertEqual(self.check(RELAYS), 1)

    def test_boths(self):
        self.assertEqual(self.check(BOTHS), 1)


if __name__ == "__main__":
    unittest.main()
