"""What several tests need of books: books of rows, all that they tell, and slow ways to tell and to update."""

import unittest

from contentnames.book import Book
from contentnames.contents import mark_of, turned_to
from contentnames.errors import (BadCall, BadName, BadRow, Clash, Known, Nameless, NoMark, NoName, Taken, TooLong, Torn,
                                 Twice)
from contentnames.house import House
from contentnames.rings import contents_of, rings_of
from contentnames.rows import row_in
from samples import marks_told_by, moved

REFUSALS = (BadCall, BadName, BadRow, Clash, Known, Nameless, NoMark, NoName, Taken, TooLong, Torn, Twice)
EVEN = "even x = ( if x ( odd ( less x 1 ) ) 1 )"
ODD = "odd x = ( if x ( even ( less x 1 ) ) 0 )"
ONE = "09ds21"
# Texts that are no name of a book, and no mark of a house: some could be, most could not.
TEXTS = ["", "zz", "abcdefgh", "abcdefghi", "add", "A", "a b", "x1", "zzzzzz", "000000", "#09ds21", "09DS21", "\n",
         "\u00e9", "\ud800", "x" * 2000]


def book_of(*tellings):
    """A house and a book of it that was told these: each a row, or a list of rows that are told together."""
    house = House()
    book = Book(house)
    for rows in tellings:
        book.tell([rows] if isinstance(rows, str) else rows)
    return house, book


def led_by(book, *names):
    """The marks to which the names lead."""
    return [book.mark(name) for name in names]


def all_of(book):
    """All that a book tells: its names and how many deeds stand; of each name the mark, the mark's names, the rows."""
    told = []
    for name, mark in book.names():
        try:
            rows = book.rows(name)
        except Nameless as refusal:
            rows = ("Nameless", refusal.what)
        told.append((name, mark, book.mark(name), book.names_of(mark), rows))
    return len(book), told


def unwound(book):
    """The names ahead of each deed that stands, the last first, told by undoing a like of the book."""
    other = book.like()
    told = []
    while other.undo():
        told.append(other.names())
    return told


class BookTest(unittest.TestCase):
    """A test that asks for refusals, behind which all is as ahead of it."""

    def refused(self, house, book, refusal, what, do, *handed, **more):
        """Twice over, do is refused by this refusal alone, and changes nothing."""
        kept = (marks_told_by(house), all_of(book), unwound(book))
        for _ in range(2):
            with self.assertRaises(refusal) as caught:
                do(*handed, **more)
            self.assertIs(type(caught.exception), refusal)
            self.assertEqual(caught.exception.what, what)
            self.assertIs(type(caught.exception.what), type(what))
            self.assertEqual((marks_told_by(house), all_of(book), unwound(book)), kept)


def calls_listed(draft):
    """Of each call in a draft its word, what is called and how many parts, a call ahead of those in its parts."""
    if draft[0] in ("call", "name"):
        return [(draft[0], draft[1], len(draft[2]))] + [call for part in draft[2] for call in calls_listed(part)]
    return [call for part in draft[1:] if isinstance(part, tuple) for call in calls_listed(part)]


def with_calls(draft, head):
    """The draft with head(word, called) in the place of each call's word and of what it calls."""
    if draft[0] in ("call", "name"):
        return head(draft[0], draft[1]) + (tuple(with_calls(part, head) for part in draft[2]),)
    return tuple(with_calls(part, head) if isinstance(part, tuple) else part for part in draft)


def own_draft(house, mark):
    """How many arguments a definition has, and its term with calls of marks for ring calls."""
    content = house.content(mark)
    ring = [mark_of(turned_to(content, place)) for place in range(len(content))]
    many, term = content[0]
    return many, moved(term, lambda place: ("call", ring[place]))


class SlowBook:
    """A book that does as the document says, by going through all that there is again and again."""

    def __init__(self):
        self.house = House()
        self.names = {}
        self.deeds = []

    def read(self, rows):
        drafts = [row_in(text) for text in rows]
        for at, (name, _, _) in enumerate(drafts):
            if name in [other for other, _, _ in drafts[:at]]:
                raise Twice(name)
        return drafts

    def place_of(self, drafts, old, word, called):
        """The place of the row of which a call in a row is, or else the mark that it calls."""
        names = [name for name, _, _ in drafts]
        if word == "name" and called in names:
            return names.index(called), None
        mark = called
        if word == "name":
            if called not in self.names:
                raise NoName(called)
            mark = self.names[called]
        self.house.content(mark)
        return (old.index(mark), mark) if mark in old else (None, mark)

    def look(self, drafts, old):
        for name, _, draft in drafts:
            for word, called, handed in calls_listed(draft):
                place, mark = self.place_of(drafts, old, word, called)
                if handed != (self.house.content(mark)[0][0] if place is None else drafts[place][1]):
                    raise BadCall(name)

    def keep(self, bodies):
        contents = contents_of(bodies)
        marks = [mark_of(content) for content in contents]
        there = dict(marks_told_by(self.house))
        taken = [mark for mark, content in zip(marks, contents)
                 if there.get(mark, content) != content
                 or any(mark == other and content != others for other, others in zip(marks, contents))]
        if taken:
            raise Taken(min(taken))
        left = contents
        while left:
            ready = [content for content in left
                     if all(self.house.has(called) for _, term in content for word, called, _ in calls_listed(
                         with_calls_only(term)) if word == "call")]
            self.house.put(ready[0])
            left = [content for content in left if content != ready[0]]
        return marks

    def deed(self, names):
        self.deeds.append(self.names)
        self.names = names

    def tell(self, rows):
        drafts = self.read(rows)
        for name, _, _ in drafts:
            if name in self.names:
                raise Known(name)
        self.look(drafts, [])

        def head(word, called):
            place, mark = self.place_of(drafts, [], word, called)
            return ("call", mark) if place is None else ("ring", place)
        marks = self.keep([(many, with_calls(draft, head)) for _, many, draft in drafts])
        pairs = [(name, mark) for (name, _, _), mark in zip(drafts, marks)]
        self.deed({**self.names, **dict(pairs)})
        return pairs

    def update(self, rows):
        drafts = self.read(rows)
        told = [name for name, _, _ in drafts]
        for name in told:
            if name not in self.names:
                raise NoName(name)
        old = [self.names[name] for name in told]
        for at, mark in enumerate(old):
            if mark in old[:at]:
                raise Torn(mark)
        self.look(drafts, old)
        called_by_rows = [self.place_of(drafts, old, word, called)[1]
                          for _, _, draft in drafts for word, called, _ in calls_listed(draft)]
        leaning = [mark for mark in self.house.marks()
                   if mark not in old and any(called in old for called in self.house.all_calls(mark))]
        touched = []
        for _ in range(len(leaning) + 1):
            touched = [mark for mark in leaning if mark in called_by_rows
                       or any(other == mark and name not in told for name, other in self.names.items())
                       or any(mark in self.house.calls(other) for other in touched)]
        calls = {mark: [(called, many) for _, called, many in calls_listed(own_draft(self.house, mark)[1])]
                 for mark in touched}
        parts = {mark: [told[old.index(called)] for called, handed in calls[mark]
                        if called in old and handed != drafts[old.index(called)][1]] for mark in touched}
        waiting = []
        for _ in range(len(touched) + 1):
            waiting = [mark for mark in touched if parts[mark] or any(called in waiting for called, _ in calls[mark])]
        moving = [mark for mark in touched if mark not in waiting]

        def head(word, called):
            place, mark = self.place_of(drafts, old, word, called)
            if place is not None:
                return ("ring", place)
            return ("ring", len(old) + moving.index(mark)) if mark in moving else ("call", mark)
        bodies = [(many, with_calls(draft, head)) for _, many, draft in drafts]
        for mark in moving:
            many, draft = own_draft(self.house, mark)
            bodies.append((many, with_calls(draft, head)))
        if any(len(ring) > 12 for ring in rings_of(bodies)):
            raise TooLong(12)
        marks = self.keep(bodies)
        behind = {name: marks[told.index(name)] if name in told else
                  marks[len(old) + moving.index(mark)] if mark in moving else mark
                  for name, mark in self.names.items()}
        led = sorted((name, mark, behind[name]) for name, mark in self.names.items() if behind[name] != mark)
        waits = []
        for name, mark in sorted(self.names.items()):
            if mark in waiting and parts[mark]:
                waits.append((name, "parts", parts[mark][0]))
            elif mark in waiting:
                waits.append((name, "leans", next(called for called, _ in calls[mark] if called in waiting)))
        self.deed(behind)
        return led, waits


def with_calls_only(term):
    """The term with its ring calls as calls of names, so that calls_listed goes through them."""
    return moved(term, lambda place: ("name", str(place)))


def some_row(chance, name, manies, marks, many=None):
    """Some row of this name, which calls some of manies, a dict of each name's number of arguments, and marks."""
    many = chance.choice([0, 0, 1, 2]) if many is None else many
    args = ["x", "y", "z", "w"][:many]

    def some_words(deep):
        draw = chance.random()
        if deep > 1 and draw < 0.45 and manies:
            called = chance.choice(sorted(manies))
            handed = manies[called] if chance.random() < 0.95 else chance.randint(0, 2)
            return ["(", called] + [word for _ in range(handed) for word in some_words(deep - 1)] + [")"]
        if deep > 1 and draw < 0.55 and marks:
            mark, handed = chance.choice(sorted(marks.items()))
            return ["(", "#" + mark] + [word for _ in range(handed) for word in some_words(deep - 1)] + [")"]
        if deep > 1 and draw < 0.75:
            return ["(", chance.choice(["add", "less"])] + some_words(deep - 1) + some_words(deep - 1) + [")"]
        return [chance.choice(args + ["0", "1"])]

    return " ".join([name, *args, "="] + some_words(3))
