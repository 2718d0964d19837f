"""A machine that runs definitions, step by step.

What is still to do stands in a list: calls may be within one another far deeper than Python's own may be.
"""

from contentnames.definitions import term_of
from contentnames.errors import TooLong
from contentnames.reckoning import chosen, reckoned
from contentnames.terms import parts_of

# What is to be done with a term: it is begun; its parts are all reckoned; a call's definition is reckoned.
BEGIN = 0
END = 1
LEAVE = 2


class Run:
    """A run of one definition, of at most so many steps; it tells its steps, and which calls are ended."""

    def __init__(self, house, most):
        self.steps = 0
        # Of each call that is ended, by its mark and numbers, the number, in the order in which they first end.
        self.ended = {}
        self._house = house
        self._most = most
        self._terms = {}
        # What is to be done with a term by these numbers, the next one last; and what is reckoned but not used yet.
        self._left = []
        self._reckoned = []

    def number_of(self, mark, numbers):
        """What the definition comes to with these numbers; refused with TooLong."""
        self._enter(mark, tuple(numbers))
        while self._left:
            stage, term, numbers_here = self._left.pop()
            if stage == BEGIN:
                self._begin(term, numbers_here)
            elif stage == END:
                self._end(term, numbers_here)
            else:
                self.ended.setdefault((term[1], numbers_here), self._reckoned[-1])
        return self._reckoned.pop()

    def _enter(self, mark, numbers):
        """Leaves the definition's term to be begun with these numbers."""
        if mark not in self._terms:
            self._terms[mark] = term_of(self._house, mark)
        self._left.append((LEAVE, ("call", mark), numbers))
        self._left.append((BEGIN, self._terms[mark], numbers))

    def _begin(self, term, numbers):
        """Counts a step, and reckons the term or leaves its parts to be begun."""
        self.steps += 1
        if self.steps > self._most:
            raise TooLong(self._most)
        word = term[0]
        if word == "num":
            self._reckoned.append(term[1])
            return
        if word == "arg":
            self._reckoned.append(numbers[term[1]])
            return
        # Of an if, the one that is chosen is only known when the first one is reckoned.
        parts = term[1:2] if word == "if" else parts_of(term)
        self._left.append((END, term, numbers))
        self._left.extend([(BEGIN, part, numbers) for part in parts[::-1]])

    def _end(self, term, numbers):
        """Goes on with a term of which the parts that were begun are reckoned."""
        word = term[0]
        if word == "if":
            self._left.append((BEGIN, chosen(term, self._reckoned.pop()), numbers))
        elif word == "call":
            self._enter(term[1], self._taken(len(term[2])))
        else:
            one, other = self._taken(2)
            self._reckoned.append(reckoned(word, one, other))

    def _taken(self, many):
        """The last so many of what is reckoned, from left to right, which are used now."""
        first = len(self._reckoned) - many
        taken = tuple(self._reckoned[first:])
        del self._reckoned[first:]
        return taken
