"""A house: contents that are kept, each by its mark."""

from contentnames.bodies import leads_of, met_from
from contentnames.contents import calls_in, is_content, mark_of, turned_to
from contentnames.errors import BadCall, BadContent, NoMark, Taken
from contentnames.terms import calls_of, places_of, terms_of


class House:
    """Contents by their marks; with each the others of its ring, and all that they call."""

    def __init__(self):
        self._contents = {}
        # Of each mark, the marks of its ring and those that it calls: both are asked for again and again.
        self._rings = {}
        self._calls = {}

    def put(self, content):
        """Keeps the content and those of its ring; tells its mark.

        Refused with BadContent, NoMark, BadCall or Taken, in this order.
        """
        if not is_content(content):
            raise BadContent(content)
        self._look_at_calls(content)
        turned = [turned_to(content, place) for place in range(len(content))]
        marks = [mark_of(other) for other in turned]
        self._look_at_marks(marks, turned)
        leads = leads_of(content)
        for place, mark in enumerate(marks):
            self._contents[mark] = turned[place]
            self._rings[mark] = tuple([marks[met] for met in met_from(place, leads)])
            self._calls[mark] = tuple(called_marks(content[place][1], marks))
        return marks[0]

    def _look_at_calls(self, content):
        """Refuses with NoMark or BadCall a content that calls what is not there, or calls it wrongly."""
        missing = [mark for mark in calls_in(content) if mark not in self._contents]
        if missing:
            raise NoMark(missing[0])
        wrong = sorted([mark for mark, handed in handed_in(content) if handed != self._contents[mark][0][0]])
        if wrong:
            raise BadCall(wrong[0])

    def _look_at_marks(self, marks, turned):
        """Refuses with Taken the first of marks that is another content's, there or among these."""
        for mark, content in zip(marks, turned):
            # Contents of one ring are all unlike, so a mark that stands twice is of two contents.
            if marks.count(mark) > 1 or self._contents.get(mark, content) != content:
                raise Taken(mark)

    def _look_for(self, mark):
        """Refuses with NoMark a mark that is not there."""
        if mark not in self._contents:
            raise NoMark(mark)

    def content(self, mark):
        """The content of the mark; refused with NoMark."""
        self._look_for(mark)
        return self._contents[mark]

    def has(self, mark):
        """Whether a content of this mark is there."""
        return mark in self._contents

    def marks(self):
        """The rising list of all marks."""
        return sorted(self._contents)

    def ring(self, mark):
        """The marks of its ring, by the places of its content; refused with NoMark."""
        self._look_for(mark)
        return list(self._rings[mark])

    def calls(self, mark):
        """The rising list of the marks that the definition's own term calls; refused with NoMark."""
        self._look_for(mark)
        return list(self._calls[mark])

    def called_by(self, mark):
        """The rising list of the marks whose definitions call this one; refused with NoMark."""
        self._look_for(mark)
        return [other for other in self.marks() if mark in self._calls[other]]

    def all_calls(self, mark):
        """The rising list of all that are called from it in one step or more; refused with NoMark."""
        left = self.calls(mark)
        met = {}
        while left:
            called = left.pop()
            if called not in met:
                met[called] = True
                left.extend(self._calls[called])
        return sorted(met)

    def like(self):
        """A house of its own with the same contents."""
        other = House()
        other._contents = dict(self._contents)
        other._rings = dict(self._rings)
        other._calls = dict(self._calls)
        return other

    def __len__(self):
        return len(self._contents)

    def __eq__(self, other):
        if not isinstance(other, House):
            return False
        return self._contents == other._contents


def handed_in(content):
    """Of each call of a mark in the content the pair of the mark and how many parts it hands."""
    calls = [inner for _, term in content for inner in terms_of(term) if inner[0] == "call"]
    return [(call[1], len(call[2])) for call in calls]


def called_marks(term, ring_marks):
    """The rising list of the marks that the term calls, ring_marks being those of the places."""
    return sorted(set(calls_of(term) + [ring_marks[place] for place in places_of(term)]))
