"""Talks: programs some lines of which say what a cell holds."""

from lostlines.checks import check_losses, check_machine, check_many, check_talk, is_saying
from lostlines.harms import by_texts
from lostlines.limits import neighbouring
from lostlines.runs import behind_line, repeated, within_most_lines, within_most_pairs
from lostlines.terms import Store


def check_lossy_talk(machine, talk, many):
    """Check the arguments that all functions of this file begin with."""
    check_machine(machine)
    check_talk(machine, talk)
    check_many(many)


def heard(machine, talk, many, losses):
    """What is said, in order, in a talk whose lines with these numbers are lost."""
    check_lossy_talk(machine, talk, many)
    check_losses(talk, neighbouring(many), losses)
    store = Store(machine[0])
    holds = store.at_first
    words = []
    for number, line in enumerate(talk):
        if number in losses:
            continue
        if is_saying(machine, line):
            words.append(holds[line[1]])
        else:
            holds = behind_line(store, holds, line)
    return store.terms(words)


def merged(words, word):
    """Words with one more behind them, unless it is the same as the last."""
    if words and words[-1] == word:
        return words
    return words + (word,)


def behind_talk_line(store, holds, words, line):
    """What the cells hold and the merged words behind a line of a talk that happens."""
    if line[0] == "say":
        return holds, merged(words, holds[line[1]])
    return behind_line(store, holds, line), words


def triples_behind(store, triples, line, many):
    """The triples (what the cells hold, lines lost last, merged words) behind a line of a talk."""
    found = {}
    for holds, lost, words in triples:
        held, said = behind_talk_line(store, holds, words, line)
        found[(held, 0, said)] = True
        if lost < many:
            found[(holds, lost + 1, words)] = True
    return within_most_pairs(found)


def sayings(machine, talk, many):
    """The unlike merged words that can be heard over all losses, ascending by their texts."""
    check_lossy_talk(machine, talk, many)
    store = Store(machine[0])
    triples = {(store.at_first, 0, ()): True}
    for line in talk:
        triples = triples_behind(store, triples, line, many)
    return by_texts(store, [words for _, _, words in triples])


def sure_words(machine, talk, many):
    """The merged words that are heard whatever is lost, None if they are not always the same."""
    found = sayings(machine, talk, many)
    return found[0] if len(found) == 1 else None


def is_told_once(machine, talk, many):
    """Whether just the same is heard, not merged, whatever is lost."""
    check_lossy_talk(machine, talk, many)
    # Each line that says can be lost alone, and then one word less is heard.
    return not any([is_saying(machine, line) for line in talk])


def talk_proofed(machine, talk, many):
    """The talk each line of which stands many + 1 times."""
    check_lossy_talk(machine, talk, many)
    return within_most_lines(repeated(talk, many + 1))
