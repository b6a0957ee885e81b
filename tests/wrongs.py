"""The functions with the kinds of their arguments, right values of each kind and wrong ones with the error's field."""

from lostlines import errors
from lostlines.boths import is_both_proof
from lostlines.copies import right_chance, spared
from lostlines.counts import count_losses, harm_counts, right_losses, small_harms
from lostlines.forgets import bearing, bears_forgetting, can_bear
from lostlines.leasts import least_proof_lines, shows_least_proof
from lostlines.leavings import least_within, needless
from lostlines.losses import harm, is_proof, is_repeat_proof, outcomes, run_lost, shows_harm, sure_terms
from lostlines.machines import is_gentle, run, term_text
from lostlines.relays import relay_outcomes, relay_sure
from lostlines.rules import harm_by, is_proof_by, most_lost, needed_lines, outcomes_by, run_by, shows_harm_by
from lostlines.says import heard, is_told_once, sayings, sure_words, talk_proofed
from lostlines.searches import (
    can_be_proof, least_cells, least_gentle_lines, least_lines, proof_program, proofed, shortest, shortest_gentle,
    shows_shortest, shows_shortest_gentle, with_spare,
)
from lostlines.sures import core, getting_sure, most_borne
from lostlines.swaps import is_swap_proof, outcomes_swapped, run_swapped, shows_swap_harm, swap_harm
from lostlines.texts import read_program, read_term, read_wishes, told, wishes_text, written
from tests.samples import ONCE, PAIR, deep, wide

# What an argument is, by its place in each function.
FUNCTIONS = (
    (is_gentle, ("machine", "program")),
    (run, ("machine", "program")),
    (term_text, ("machine", "term")),
    (run_lost, ("machine", "program", "many", "losses")),
    (outcomes, ("machine", "program", "many")),
    (sure_terms, ("machine", "program", "many")),
    (is_proof, ("machine", "program", "many", "wishes")),
    (harm, ("machine", "program", "many", "wishes")),
    (shows_harm, ("machine", "program", "many", "wishes", "value")),
    (is_repeat_proof, ("machine", "program", "many", "wishes")),
    (shortest, ("machine", "wishes")),
    (shortest_gentle, ("machine", "wishes")),
    (least_lines, ("machine", "wishes")),
    (least_gentle_lines, ("machine", "wishes")),
    (shows_shortest, ("machine", "wishes", "value")),
    (shows_shortest_gentle, ("machine", "wishes", "value")),
    (can_be_proof, ("machine", "wishes")),
    (proofed, ("machine", "program", "many")),
    (proof_program, ("machine", "many", "wishes")),
    (with_spare, ("machine", "program")),
    (least_cells, ("machine", "wishes")),
    (spared, ("machine", "program", "many", "wishes")),
    (right_chance, ("machine", "program", "chance", "wishes")),
    (written, ("machine", "program")),
    (wishes_text, ("machine", "wishes")),
    (told, ("machine", "program", "many", "losses")),
    (read_program, ("program text",)),
    (read_term, ("machine", "term text")),
    (read_wishes, ("machine", "wishes text")),
    (run_by, ("machine", "program", "rule", "losses")),
    (outcomes_by, ("machine", "program", "rule")),
    (is_proof_by, ("machine", "program", "rule", "wishes")),
    (harm_by, ("machine", "program", "rule", "wishes")),
    (shows_harm_by, ("machine", "program", "rule", "wishes", "value")),
    (most_lost, ("machine", "program", "wishes")),
    (needed_lines, ("machine", "program", "wishes")),
    (run_swapped, ("machine", "program", "swaps")),
    (outcomes_swapped, ("machine", "program")),
    (is_swap_proof, ("machine", "program", "wishes")),
    (swap_harm, ("machine", "program", "wishes")),
    (shows_swap_harm, ("machine", "program", "wishes", "value")),
    (heard, ("machine", "talk", "many", "losses")),
    (sayings, ("machine", "talk", "many")),
    (sure_words, ("machine", "talk", "many")),
    (is_told_once, ("machine", "talk", "many")),
    (talk_proofed, ("machine", "talk", "many")),
    (least_proof_lines, ("machine", "many", "wishes")),
    (shows_least_proof, ("machine", "many", "wishes", "value")),
    (getting_sure, ("machine", "program", "many")),
    (core, ("machine", "program", "many")),
    (most_borne, ("machine", "program", "wishes")),
    (needless, ("machine", "proof", "many", "wishes")),
    (least_within, ("machine", "proof", "many", "wishes")),
    (count_losses, ("lines", "many")),
    (right_losses, ("machine", "program", "many", "wishes")),
    (harm_counts, ("machine", "program", "many", "wishes")),
    (small_harms, ("machine", "program", "many", "wishes")),
    (bears_forgetting, ("machine", "program", "forgets", "wishes")),
    (can_bear, ("machine", "forgets", "wishes")),
    (bearing, ("machine", "forgets", "wishes")),
    (relay_outcomes, ("machine", "stages", "many")),
    (relay_sure, ("machine", "stages", "many")),
    (is_both_proof, ("machine", "program", "many", "wishes")),
)

# Those that take a program or a talk but do not run it.
NOT_RUN = (is_gentle, proofed, with_spare, written, is_told_once, talk_proofed)

RIGHT = {
    "machine": PAIR, "program": (ONCE, ONCE, (0, None, (1,)), ONCE, ONCE), "term": (0, 1), "many": 1,
    "losses": (0,), "wishes": ((0, (0, 0)), (1, (0, (0, 0)))), "value": (0,), "chance": (1, 3),
    "rule": ("window", 2, 1), "swaps": (0,), "talk": (ONCE, ("say", 1), (0, None, (1,)), ("say", 0), ("say", 1)),
    "program text": "cells 2\nfunctions 1\nc0 = c1\n", "term text": "c1", "wishes text": "c0 holds c1\n",
    "proof": (ONCE, ONCE, (0, None, (1,)), (0, None, (1,)), ONCE, ONCE), "lines": 5, "forgets": (),
    "stages": (((ONCE, ONCE), (1, 0)), (((2, 1, (0, 1)),), (0, 1, 1))),
}

MACHINES = (
    (None, "machine"), (True, "machine"), (2, "machine"), ("ab", "machine"), ((), "machine"), ((2,), "machine"),
    ([2, (1, 2)], "machine"), ((2, (1, 2), 0), "machine"), ({0: 2, 1: (1, 2)}, "machine"), (((2, (1, 2)),), "machine"),
    ((0, (1, 2)), "cells"), ((-1, (1, 2)), "cells"), ((5, (1, 2)), "cells"), ((True, (1, 2)), "cells"),
    ((None, (1, 2)), "cells"), (("2", (1, 2)), "cells"), (((2,), (1, 2)), "cells"), (([], (1, 2)), "cells"),
    ((0, ()), "cells"), ((5, [1]), "cells"), ((False, None), "cells"),
    ((2, ()), "functions"), ((2, (1, 1, 1, 1)), "functions"), ((2, [1, 2]), "functions"), ((2, 1), "functions"),
    ((2, None), "functions"), ((2, "12"), "functions"), ((2, {1: 2}), "functions"), ((2, (0,)), "functions"),
    ((2, (1, 3)), "functions"), ((2, (3, 1)), "functions"), ((2, (1, 2, 0)), "functions"), ((2, (-1,)), "functions"),
    ((2, (True, 2)), "functions"), ((2, (1, True)), "functions"), ((2, (None,)), "functions"),
    ((2, ("1",)), "functions"), ((2, ((1,),)), "functions"), ((2, ([1],)), "functions"),
)

NO_LINES = (
    None, True, 0, "c0 = c1", (), (1,), (1, 0), [1, 0, (0,)], (1, 0, (0,), 0), {0: 1, 1: 0, 2: (0,)}, ((1, 0, (0,)),),
    # The cell:
    (2, 0, (0,)), (-1, 0, (0,)), (True, 0, (0,)), (False, 0, (1,)), (None, 0, (0,)), ("1", 0, (0,)), ((1,), 0, (0,)),
    # The function:
    (1, 2, (0,)), (1, -1, (0, 0)), (1, False, (0,)), (1, True, (0, 0)), (1, "0", (0,)), (1, (0,), (0,)), (1, [], (0,)),
    # The sources:
    (1, 0, 0), (1, 0, None), (1, 0, [0]), (1, 0, "0"), (1, 0, {0: 0}), (1, 0, ()), (1, 0, (0, 0)), (1, 1, (0,)),
    (1, 1, (0, 0, 0)), (1, 1, ()), (1, 0, (2,)), (1, 0, (-1,)), (1, 1, (0, 2)), (1, 1, (2, 0)), (1, 1, (0, -1)),
    (1, 0, (False,)), (1, 1, (0, True)), (1, 0, (None,)), (1, 0, ("0",)), (1, 0, ((0,),)), (1, 1, (0, [])),
    # Copies:
    (0, None, (0,)), (1, None, (1,)), (1, None, ()), (1, None, (0, 0)), (1, None, (0, 1)), (1, None, 0),
    (1, None, [0]), (1, None, (2,)), (1, None, (-1,)), (1, None, (False,)), (1, None, None), (2, None, (0,)),
)

PROGRAMS = (
    (None, None), (False, None), (0, None), ("", None), ([], None), ([ONCE], None), ({}, None), ({0: ONCE}, None),
    ((ONCE,) * 61, None), ((ONCE,) * 200, None), ((None,) * 61, None), ((ONCE,) * 60 + (None,), None),
    (ONCE, 0), ((None,), 0), ((ONCE, None), 1), ((ONCE, None, ONCE, None), 1), ((ONCE,) * 59 + (None,), 59),
) + tuple(((line,), 0) for line in NO_LINES) + tuple(((ONCE, ONCE, line, None), 2) for line in NO_LINES)

NUMBERS = tuple((value, ()) for value in (
    0, 4, -1, 100, True, False, None, "", "1", (), (1,), [], [1], {}, {1: 1}))

LOSSES = tuple((value, ()) for value in (
    None, True, 0, 1, "0", [], [0], {}, {0: 0}, ((),), ((0,),), (None,), ("0",), ([],), (True,), (False,), (0, True),
    (5,), (-1,), (0, 5), (-1, 1), (0, 0), (2, 0), (0, 3, 2), (4, 1), (0, 1), (3, 4), (0, 2, 3), (0, 1, 2, 3, 4),
    (0, None), (0, "2"), (0, (2,)), (0, [2])))

NO_TERMS = (
    None, True, False, -1, 2, 4, "", "c0", "0", (), (0,), [0, 0], [], {}, {0: 0}, (0, 0, 0), (1, 0), (1, 0, 0, 0),
    (2, 0), (-1, 0, 0), (-2, 0), (True, 0, 0), (False, 0), (None, 0), ("0", 0), ((0,), 0), (0, 2), (0, -1), (0, None),
    (0, True), (0, "0"), (0, [0, 0]), (0, ()), (0, (0,)), (0, (0, 0, 0)), (1, 0, 2), (1, 2, 0), (1, 0, False),
    (1, (0, 0), (0, (0, 5))), (1, (0, True), 0), deep(9), wide(9), (0, wide(8)), (1, 0, deep(8)), (1, deep(8), 0),
    deep(400),
)

TERMS = tuple((value, ()) for value in NO_TERMS)

NO_WISHES = (
    None, True, 0, "", (), (0,), [0, 0], (0, 0, 0), {0: 0}, ((0, 0),), (2, 0), (-1, 0), (True, 0), (False, 0),
    (None, 0), ("0", 0), ((0,), 0), ([], 0),
) + tuple((0, term) for term in NO_TERMS)

WISHES = (
    (None, None), (True, None), (0, None), ("", None), ((), None), ([], None), ([(0, 0)], None), ({}, None),
    ({0: 0}, None),
    ((0, 0), 0), (((0, 0), None), 1), (((0, 0), (0, 0)), 1), (((0, 0), (0, 1)), 1), (((1, 0), (0, 0)), 1),
    (((1, 0), (1, 1), (0, 0)), 1), (((0, 0), (1, 1), (1, 1)), 2), (((0, 0), (1, 1), (2, 0)), 2),
    (((0, 0), (1, 1), (0, 0)), 2), (((0, 5), (0, 0)), 0), (((1, 1), (1, 5)), 1),
) + tuple(((wish,), 0) for wish in NO_WISHES) + tuple(((wish, (1, 1), None), 0) for wish in NO_WISHES)
WISHES += tuple((((0, 0), (1, wish[1])), 1) for wish in NO_WISHES if isinstance(wish, tuple) and wish[:1] == (0,)
                and len(wish) == 2 and wish[1] != 0)

CHANCES = tuple((value, ()) for value in (
    None, True, 0, 1, "", "12", (), (1,), (1, 2, 3), [1, 2], {1: 2}, ((1, 2),), (0, 0), (1, 0), (-1, 2), (2, 1),
    (-1, -2), (0, -1), (1, -1), (0, 1001), (1001, 1001), (4, 3), (1001, 1000), (True, 2), (False, 1), (0, True),
    (1, True), (None, 2), (1, None), ("1", 2), (1, "2"), ((1,), 2), (1, (2,)), ([], 2), (0, []), (0, {})))

# The right program has five lines.
RULES = tuple((value, ()) for value in (
    None, True, 0, 1, "", "all", (), ("all",), ("window",), ("kept",), ("all", 1, 1), ("window", 2),
    ("window", 2, 1, 1), ("kept", (), ()), ["all", 1], {"all": 1}, ("any", 1), ("last", 1), ("ALL", 1), (1, "all"), (None, 1), (("all",), 1),
    ([], 1), ("all", 1, None), (0, 1), ("all ", 1),
    ("all", -1), ("all", 61), ("all", True), ("all", False), ("all", None), ("all", "1"), ("all", (1,)), ("all", []),
    ("window", 0, 0), ("window", 7, 1), ("window", -1, -1), ("window", 3, -1), ("window", 3, 4), ("window", 1, 2),
    ("window", True, 1), ("window", 1, True), ("window", 1, False), ("window", 2, None), ("window", None, 1),
    ("window", "2", 1), ("window", 2, "1"), ("window", (2,), 1), ("window", 2, [1]), ("window", [], 1),
    ("kept", None), ("kept", 0), ("kept", True), ("kept", "0"), ("kept", ""), ("kept", [0]), ("kept", []), ("kept", {}),
    ("kept", (5,)), ("kept", (-1,)), ("kept", (0, 0)), ("kept", (1, 0)), ("kept", (0, 5)), ("kept", (True,)),
    ("kept", (False, 1)), ("kept", (None,)), ("kept", ("0",)), ("kept", ((0,),)), ("kept", ([],)), ("kept", (0, 2, 1))))

SWAPS = tuple((value, ()) for value in (
    None, True, 0, 1, "", "0", [], [0], {}, {0: 0}, (4,), (5,), (-1,), (0, 4), (0, 1), (3, 2), (2, 0), (0, 0), (1, 1),
    (1, 2), (0, 2, 3), (True,), (False,), (0, True), (None,), ("0",), ((0,),), ([],), (0, None), (-1, 1), (0, 60)))

NO_TALK_LINES = NO_LINES + (
    ("say",), ("say", 2), ("say", -1), ("say", True), ("say", False), ("say", None), ("say", "0"), ("say", (0,)),
    ("say", 0, 0), ("say", []), ("tell", 0), ("Say", 0), (0, "say"), ["say", 0], {"say": 0}, "say", ("say", "say"),
    (("say", 0),), (None, 0), ((), 0), ([], 0), ("say", 0, (0,)))

TALKS = (
    (None, None), (False, None), (0, None), ("", None), ("say", None), ([], None), ([("say", 0)], None), ({}, None),
    ({0: ONCE}, None), ((("say", 0),) * 61, None), ((ONCE,) * 61, None), ((None,) * 61, None),
    (ONCE, 0), (("say", 0), 0), ((None,), 0), ((ONCE, None), 1), ((("say", 0), ONCE, None, None), 2),
    ((("say", 1),) * 59 + (None,), 59),
) + tuple(((line,), 0) for line in NO_TALK_LINES) + tuple(((("say", 0), ONCE, line, 0), 2) for line in NO_TALK_LINES)

# Programs, and some that are not proof for the right wishes.
PROOFS = PROGRAMS + tuple((program, None) for program in ((), (ONCE,), RIGHT["program"], RIGHT["proof"][1:]))

COUNTS = tuple((value, ()) for value in (
    -1, 61, 100, True, False, None, "", "5", (), (5,), [], [5], {}, {5: 5}))

FORGETS = tuple((value, ()) for value in (
    None, True, 0, 1, "", "0", [], [0], {}, {0: 0}, (2,), (-1,), (0, 2), (0, 0), (1, 0), (0, 1, 1), (0, 1, 2),
    (True,), (False,), (0, True), (None,), ("0",), ((0,),), ([],), (0, None), ((), 0)))

STAGE = RIGHT["stages"][0]
# A stage takes from the cells of the one ahead, and its lines are for its own cells.
NO_STAGES = (
    None, True, 0, "", "ab", (), ((),), ((), (0,), ()), [(), (0,)], {0: (), 1: (0,)}, ((), (0,), None),
    ((), None), ((), ()), ((), 0), ((), "0"), ((), [0]), ((), {0: 0}), ((), (0,) * 5), ((), (2,)), ((), (-1,)),
    ((), (0, 2)), ((), (True,)), ((), (False, 0)), ((), (None,)), ((), ("0",)), ((), ((0,),)), ((), ([],)),
    (None, (0, 1)), (0, (0, 1)), ([], (0, 1)), ("", (0, 1)), ({}, (0, 1)), (ONCE, (0, 1)), ([ONCE], (0, 1)),
    ((ONCE,) * 61, (0, 1)), ((ONCE, None), (0, 1)), ((ONCE,), (0,)), (((2, 0, (0,)),), (0, 1)),
    (((0, 0, (1,)),), (0,)), (((0, None, (0,)),), (0, 1)), (((0, 2, (0,)),), (0, 1)), (((True, 0, (0,)),), (0, 1)),
    ((0, 1), (ONCE,)),
)

RELAYS = (
    (None, None), (True, None), (0, None), ("", None), ((), None), ([], None), ([STAGE], None), ({}, None),
    ({0: STAGE}, None), ((((), (0, 1)),) * 5, None), ((None,) * 5, None),
    (STAGE, 0), ((STAGE, None), 1), ((((), (0, 1)),) * 3 + (None,), 3), ((((), (0,)), ((), (1,))), 1),
    ((((), (1,)), STAGE), 1), ((((), (0, 0, 0)), ((), (2,)), ((), (1,)), None), 2),
) + tuple(((stage,), 0) for stage in NO_STAGES) + tuple(((STAGE, STAGE, stage, None), 2) for stage in NO_STAGES)

NO_TEXTS = tuple((value, 0) for value in (None, True, 0, 1, "", (), ("c0",), [], ["c0"], {}, {0: 0}))
PROGRAM_TEXTS = NO_TEXTS + (
    ("cells 2", 0), ("cells 2\n", 1), ("cells 5\nfunctions 1\n", 0), ("cells 2\nfunctions 3\n", 1), ("x\ny", 1),
    ("cells 2\nfunctions 1\nc0 = c0\n", 2), ("cells 2\nfunctions 1\nc0 = c1\nx\n", 3),
    ("cells 2\nfunctions 1\n" + "c0 = c1\n" * 61, 62))
TERM_TEXTS = NO_TEXTS + (("c2", 0), ("c0\n", 0), ("f0", 0), ("f0(c0,c1)", 0), ("f2(c0)", 0), ("x\nc0", 0))
WISHES_TEXTS = NO_TEXTS + (
    ("c0 holds c0", 0), ("c0 holds c2\n", 0), ("c0 holds c0\nc0 holds c0\n", 1), ("c0 holds c0\nc1 holds c0", 1),
    ("\n", 0), ("c1 holds c0\n\n", 1), ("x\ny\nz", 2))

# For each kind of argument: its error, the name of the error's field, and pairs of a wrong value and the field.
WRONG = {
    "machine": (errors.BadMachine, "part", MACHINES),
    "program": (errors.BadProgram, "index", PROGRAMS),
    "term": (errors.BadTerm, None, TERMS),
    "many": (errors.BadNumber, None, NUMBERS),
    "losses": (errors.BadLosses, None, LOSSES),
    "wishes": (errors.BadWishes, "index", WISHES),
    "chance": (errors.BadChance, None, CHANCES),
    "rule": (errors.BadRule, None, RULES),
    "swaps": (errors.BadSwaps, None, SWAPS),
    "talk": (errors.BadTalk, "index", TALKS),
    "program text": (errors.BadText, "line", PROGRAM_TEXTS),
    "term text": (errors.BadText, "line", TERM_TEXTS),
    "wishes text": (errors.BadText, "line", WISHES_TEXTS),
    "proof": (errors.BadProgram, "index", PROOFS),
    "lines": (errors.BadNumber, None, COUNTS),
    "forgets": (errors.BadCells, None, FORGETS),
    "stages": (errors.BadRelay, "index", RELAYS),
}

FEW = {
    "machine": ((7, "machine"), ((9, ()), "cells"), ((2, ()), "functions")),
    "program": ((7, None), ((ONCE, 7), 1)),
    "term": ((None, ()), (deep(9), ())),
    "many": ((0, ()), (True, ()), (None, ())),
    "losses": ((None, ()), ((0, 1), ()), ((60,), ())),
    "wishes": ((None, None), ((), None), (((0, 0), (0, 0)), 1)),
    "chance": ((None, ()), ((1, 0), ()), ((0, 1001), ())),
    "rule": ((None, ()), (("all", 61), ()), (("kept", (60,)), ())),
    "swaps": ((None, ()), ((0, 1), ()), ((59,), ())),
    "talk": ((7, None), ((ONCE, ("say", 9)), 1)),
    "term text": ((None, 0), ("f9", 0)),
    "wishes text": ((None, 0), ("x\ny\n", 0)),
    "proof": ((7, None), ((ONCE, 7), 1), ((ONCE,) * 61, None)),
    "lines": ((None, ()), (61, ()), (True, ())),
    "forgets": ((None, ()), ((9,), ()), ((0, 0), ())),
    "stages": ((7, None), ((), None), ((STAGE, 7), 1), ((((), (9,)),), 0)),
}
