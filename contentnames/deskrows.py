"""Rows of a desk: which there are, and what they write."""

from contentnames.errors import BadRow
from contentnames.rows import is_name, row_in
from contentnames.terms import MOST_PARTS, is_mark
from contentnames.termtext import number_in

MOST_ROWS = 12
MOST_AGAIN = 60


def deskrow_in(text):
    """The tuple of the row's first word and of what stands behind it; refused with BadRow."""
    words = text.split(" ")
    if words[0] not in READERS:
        raise BadRow(text)
    reader = READERS[words[0]]
    try:
        behind = reader(words[1:])
    except BadRow:
        # What is refused is the whole row, not what stands in it.
        raise BadRow(text) from None
    return (words[0], *behind)


def look_at(words, holds):
    """Refuses with BadRow the words behind the first where it does not hold that they are right."""
    if not holds:
        raise BadRow(" ".join(words))


def rows_behind(words):
    """Behind tell and update: one to twelve rows, parted by semicolons."""
    rows = " ".join(words).split(" ; ")
    look_at(words, len(rows) <= MOST_ROWS)
    for row in rows:
        row_in(row)
    return (tuple(rows),)


def name_and_mark_behind(words):
    """Behind give: a name and a mark."""
    look_at(words, len(words) == 2 and is_name(words[0]) and is_marked(words[1]))
    return (words[0], words[1][1:])


def name_behind(words):
    """Behind drop, mark, rows, calls and leans: a name."""
    look_at(words, len(words) == 1 and is_name(words[0]))
    return (words[0],)


def nothing_behind(words):
    """Behind undo and size: nothing."""
    look_at(words, len(words) == 0)
    return ()


def mark_or_nothing_behind(words):
    """Behind names: a mark, or nothing."""
    look_at(words, len(words) == 0 or len(words) == 1 and is_marked(words[0]))
    return (words[0][1:] if words else "",)


def name_and_numbers_behind(words):
    """Behind run: a name and none to four numbers."""
    look_at(words, 1 <= len(words) <= 1 + MOST_PARTS and is_name(words[0]))
    numbers = [number_in(word) for word in words[1:]]
    look_at(words, None not in numbers)
    return (words[0], tuple(numbers))


def many_behind(words):
    """Behind again: a number of rows."""
    number = number_in(words[0]) if len(words) == 1 else None
    look_at(words, number is not None and 1 <= number <= MOST_AGAIN)
    return (number,)


def is_marked(word):
    """Whether the word is a mark as rows write it."""
    return word[:1] == "#" and is_mark(word[1:])


READERS = {
    "tell": rows_behind, "update": rows_behind, "give": name_and_mark_behind, "drop": name_behind,
    "undo": nothing_behind, "mark": name_behind, "names": mark_or_nothing_behind, "rows": name_behind,
    "calls": name_behind, "leans": name_behind, "size": nothing_behind, "run": name_and_numbers_behind,
    "again": many_behind,
}
