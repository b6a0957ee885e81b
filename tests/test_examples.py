"""The examples of the document's interface, word for word."""

import unittest

MACHINES = """
>>> from lostlines.machines import is_gentle, run, term_text
>>> pair = (2, (1, 2))
>>> [run(pair, ((1, 0, (0,)), (0, 1, (0, 1)))), is_gentle(pair, ((0, 1, (0, 1)),)), term_text(pair, (1, 0, (0, 1)))]
[((1, 0, (0, 0)), (0, 0)), False, 'f1(c0,f0(c1))']
>>> run(pair, ((0, None, (0,)),))
raises BadProgram(index=0)
"""

LOSSES = """
>>> from lostlines.losses import harm, is_proof, is_repeat_proof, outcomes, run_lost, shows_harm, sure_terms
>>> pair = (2, (1, 2))
>>> once = (1, 0, (0,))
>>> [run_lost(pair, (once, once), 1, (0,)), outcomes(pair, (once,), 1), sure_terms(pair, (once, once), 1)]
[(0, (0, 0)), ((0, 1), (0, (0, 0))), ((0, 1), (0, None), (0, (0, 0)))]
>>> [is_proof(pair, (once, once), 1, ((1, (0, 0)),)), harm(pair, (once, once), 2, ((1, (0, 0)),)), shows_harm(pair, (once,), 1, ((1, (0, 0)),), (0,))]
[True, (0, 1), True]
>>> [is_repeat_proof(pair, (once,), 3, ((1, (0, 0)),)), is_repeat_proof(pair, ((0, 0, (0,)),), 1, ((0, (0, 0)),))]
[True, False]
>>> run_lost(pair, (once, once), 1, (0, 1))
raises BadLosses()
"""


def answer(code, names):
    """What an example's line shows: its value, or the error that it raises with its fields."""
    try:
        return repr(eval(code, names))
    except ValueError as error:
        fields = ", ".join(f"{name}={worth!r}" for name, worth in vars(error).items())
        return f"raises {type(error).__name__}({fields})"


class Examples(unittest.TestCase):
    def check(self, text):
        names = {}
        rows = text.strip().split("\n") + [">>> "]
        shown = 0
        for row, below in zip(rows, rows[1:]):
            code = row.removeprefix(">>> ")
            if row == code:
                continue
            if below.startswith(">>> "):
                exec(code, names)
            else:
                self.assertEqual(answer(code, names), below)
                shown += 1
        return shown

    def test_machines(self):
        self.assertEqual(self.check(MACHINES), 2)

    def test_losses(self):
        self.assertEqual(self.check(LOSSES), 4)


if __name__ == "__main__":
    unittest.main()
