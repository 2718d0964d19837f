"""A desk, at which rows are done one by one, alone or in runs."""

from contentnames.book import Book
from contentnames.deskrows import deskrow_in
from contentnames.deskwords import DEEDS, answer_text, deed_text, run_text
from contentnames.errors import BadRow, Busy
from contentnames.house import House
from contentnames.running import LIMIT

DEEP = 2


class Desk:
    """A house and a book of it, and a log of the runs."""

    def __init__(self, *, most=LIMIT):
        self._house = House()
        self._book = Book(self._house)
        self._most = most
        self._log = []
        self._under_way = 0

    def ask(self, row):
        """Does the row; tells its text; refused with BadRow, then as what it does is."""
        told = deskrow_in(row)
        if told[0] == "again":
            raise BadRow(row)
        return self._text(told)

    def run(self, rows, *, keep=False, deep=DEEP):
        """Does the rows one by one; tells the list of their texts.

        Where a row is refused, so is the run. What it did is taken back then, and also where it is not to be kept.
        """
        house = self.house()
        book = self._book.over(house)
        try:
            texts = self._run_within(rows, deep)
            if keep:
                house, book = self._house, self._book
        finally:
            self._house, self._book = house, book
        return texts

    def _run_within(self, rows, deep):
        """Does the rows as a run of its own, or as one within another; takes nothing back."""
        texts = []
        done = 0
        self._log.append(("begin", len(rows)))
        self._under_way += 1
        try:
            for row in rows:
                texts.append(self._text_in_run(row, rows[:done], deep))
                done += 1
        finally:
            self._under_way -= 1
            self._log.append(("end", done))
        return texts

    def _text_in_run(self, row, ahead, deep):
        """Does the row of a run, ahead being those that the run has done; tells its text."""
        told = deskrow_in(row)
        if told[0] != "again":
            return self._text(told)
        many = told[1]
        if many > len(ahead):
            raise BadRow(row)
        if self._under_way >= deep:
            raise Busy(deep)
        self._run_within(ahead[-many:], deep)
        return str(many)

    def _text(self, told):
        """Does what deskrow_in told of a row; tells its text."""
        word, what = told[0], told[1:]
        if word in DEEDS:
            return deed_text(self._book, word, what)
        if word == "run":
            return run_text(self._house, self._book, self._most, what)
        return answer_text(self._house, self._book, word, what)

    def is_open(self):
        """Whether no run is under way."""
        return self._under_way == 0

    def log(self):
        """The pairs ("begin", many) and ("end", many) of the runs, in the order in which they came."""
        return list(self._log)

    def house(self):
        """A house of the asker's own, as the desk's is now."""
        return self._house.like()

    def book(self):
        """A book of another house, both the asker's own, as the desk's is now."""
        return self._book.over(self.house())
