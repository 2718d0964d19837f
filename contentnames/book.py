"""A book: names that lead to marks of one house."""

from contentnames.definitions import many_of, term_of
from contentnames.drafts import drafts_of, heads_of, look_at_calls, names_in, row_bodies
from contentnames.errors import BadName, Clash, Known, Nameless, NoMark, NoName
from contentnames.keeping import kept_marks, look_at_rings
from contentnames.merging import ITS, merged
from contentnames.rows import is_name, row_text
from contentnames.terms import with_heads
from contentnames.updating import old_marks, planned


class Book:
    """Names and the marks to which they lead; what it is told it puts into the very house that is handed in."""

    def __init__(self, house):
        self._house = house
        # Of each name the mark. A deed makes a new dict: deeds and books that are like this one keep the old ones.
        self._names = {}
        # Of each deed that stands the names as they were ahead of it.
        self._deeds = []
        # The names of which this book was made as a branch.
        self._base = []

    def tell(self, rows):
        """Leads the names of the rows, which it has not yet; tells the pairs (name, mark), in their order.

        Refused with BadRow, Twice, Known, then, call by call, NoName, NoMark or BadCall, then Taken.
        """
        drafts = drafts_of(rows)
        for name in names_in(drafts):
            self._look_free(name)
        heads = heads_of(drafts, self._names, {})
        look_at_calls(self._house, drafts, heads)
        marks = kept_marks(self._house, row_bodies(drafts, heads))
        pairs = list(zip(names_in(drafts), marks))
        self._lead({**self._names, **dict(pairs)})
        return pairs

    def update(self, rows):
        """Leads the names of the rows, which it has, and all that leans on them, elsewhere.

        Tells the pair of (name, mark ahead, mark behind) of what is led, and (name, word, what) of what waits.
        Refused with BadRow, Twice, NoName, Torn, then, call by call, NoName, NoMark or BadCall, then TooLong, Taken.
        """
        drafts = drafts_of(rows)
        for name in names_in(drafts):
            self._look_for(name)
        old = old_marks(drafts, self._names)
        look_at_calls(self._house, drafts, heads_of(drafts, self._names, old))
        bodies, places, waits = planned(self._house, self._names, drafts, old)
        look_at_rings(bodies)
        marks = kept_marks(self._house, bodies)
        waiting = [(name, *waits[mark]) for name, mark in self.names() if mark in waits]
        names = {name: marks[places[mark]] if mark in places else mark for name, mark in self._names.items()}
        return (self._lead({**names, **dict(zip(names_in(drafts), marks))}), waiting)

    def give(self, name, mark):
        """Leads the name, which it has not yet, to the mark; refused with BadName, Known or NoMark."""
        if not is_name(name):
            raise BadName(name)
        self._look_free(name)
        if not self._house.has(mark):
            raise NoMark(mark)
        self._lead({**self._names, name: mark})

    def drop(self, name):
        """Leads the name nowhere; refused with NoName."""
        self._look_for(name)
        self._lead({other: mark for other, mark in self._names.items() if other != name})

    def take_in(self, branch, *, wins=None):
        """Leads the names as this book and the branch together do; tells (name, mark ahead, mark behind) of each.

        Refused with Clash where both led a name to unlike marks, unless MINE or ITS wins.
        """
        pairs, clashes = merged(branch._base, self.names(), branch.names())
        if clashes and wins is None:
            raise Clash(tuple([clash[0] for clash in clashes]))
        names = dict(pairs)
        if wins == ITS:
            for name, _, _, mark in clashes:
                names[name] = mark
        return self._lead({name: mark for name, mark in names.items() if mark != ""})

    def undo(self):
        """Takes the last deed that stands back, for all names; tells whether there was one."""
        if not self._deeds:
            return False
        self._names = self._deeds.pop()
        return True

    def mark(self, name):
        """The mark to which the name leads; refused with NoName."""
        self._look_for(name)
        return self._names[name]

    def names(self):
        """The rising list of the pairs (name, mark)."""
        return sorted(self._names.items())

    def names_of(self, mark):
        """The rising list of the names that lead to the mark."""
        return [name for name, other in self.names() if other == mark]

    def rows(self, name):
        """The rows of the name's ring, by least names; refused with NoName or Nameless."""
        ring = self._house.ring(self.mark(name))
        least = {mark: other for other, mark in self.names()[::-1]}
        for mark in ring:
            if mark not in least:
                raise Nameless(mark)
        heads = {("call", mark): ("name", other) for mark, other in least.items()}
        terms = [with_heads(term_of(self._house, mark), heads) for mark in ring]
        return [row_text(least[mark], many_of(self._house, mark), term) for mark, term in zip(ring, terms)]

    def like(self):
        """A book of the same house with the same names, deeds and base."""
        return self.over(self._house)

    def over(self, house):
        """A book like this one over another house, which has the same contents."""
        book = Book(house)
        book._names = self._names
        book._deeds = list(self._deeds)
        book._base = self._base
        return book

    def branch(self):
        """A book of the same house and names, of which no deed stands, with these names as its base."""
        book = Book(self._house)
        book._names = self._names
        book._base = self.names()
        return book

    def __len__(self):
        return len(self._deeds)

    def _look_for(self, name):
        """Refuses with NoName a name that leads nowhere."""
        if name not in self._names:
            raise NoName(name)

    def _look_free(self, name):
        """Refuses with Known a name that leads somewhere."""
        if name in self._names:
            raise Known(name)

    def _lead(self, names):
        """Has the names lead so, as a deed; tells (name, mark ahead, mark behind) of those that lead elsewhere now."""
        ahead = self._names
        self._deeds.append(ahead)
        self._names = names
        both = sorted(set(list(ahead) + list(names)))
        told = [(name, ahead.get(name, ""), names.get(name, "")) for name in both]
        return [change for change in told if change[1] != change[2]]
