"""Terms: their texts, and a store that gives them numbers."""

from lostlines.errors import TooMany

DEEPEST = 8


def text_of(term):
    """The text of a term."""
    if isinstance(term, int):
        return f"c{term}"
    inner = ",".join([text_of(part) for part in term[1:]])
    return f"f{term[0]}({inner})"


class Store:
    """The terms that come in one answer, each under a number of its own.

    Runs keep and compare these numbers instead of the terms: equal terms have
    equal numbers, and a dict's keys stay flat however deep the terms grow.
    """

    def __init__(self, cells, deepest=DEEPEST):
        self.at_first = tuple(range(cells))
        self._deepest = deepest
        self._terms = list(range(cells))
        self._depths = [1 for _ in range(cells)]
        self._numbers = {}
        self._texts = {}
        self._is_closed = False
        self._shared = {}

    def close(self):
        """From now on let all new terms of one depth share a number.

        A term with one of them in it is new, too, so the terms that have come
        so far, and how deep all are, can still be told apart.
        """
        self._is_closed = True

    def made(self, function, parts):
        """The number of what a function makes of the terms with these numbers."""
        key = (function, parts)
        if key not in self._numbers:
            depth = 1 + max([self._depths[part] for part in parts])
            if depth > self._deepest:
                raise TooMany(self._deepest)
            self._numbers[key] = self._new(depth, (function,) + self.terms(parts))
        return self._numbers[key]

    def _new(self, depth, term):
        if depth in self._shared:
            return self._shared[depth]
        number = len(self._terms)
        self._terms.append(term)
        self._depths.append(depth)
        if self._is_closed:
            self._shared[depth] = number
        return number

    def number(self, term):
        """The number of a term of at most the greatest depth."""
        if isinstance(term, int):
            return term
        return self.made(term[0], tuple([self.number(part) for part in term[1:]]))

    def terms(self, numbers):
        """The terms with these numbers."""
        return tuple([self._terms[number] for number in numbers])

    def texts(self, numbers):
        """The texts of the terms with these numbers."""
        for number in numbers:
            if number not in self._texts:
                self._texts[number] = text_of(self._terms[number])
        return tuple([self._texts[number] for number in numbers])
