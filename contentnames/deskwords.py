"""What the rows of a desk do, and the texts that they tell.

A row is its first word and what stands behind it, as deskrow_in tells it.
"""

from contentnames.running import ran

DEEDS = ("tell", "update", "give", "drop", "undo")


def parted(things):
    """The things in one text."""
    return " ".join(things) if things else "-"


def deed_text(book, word, what):
    """Does one of DEEDS; tells its text."""
    if word == "tell":
        return parted([name + "#" + mark for name, mark in book.tell(what[0])])
    if word == "update":
        led, waits = book.update(what[0])
        return parted(["#".join(change) for change in led] + [":".join(wait) for wait in waits])
    if word == "give":
        book.give(*what)
    elif word == "drop":
        book.drop(*what)
    elif not book.undo():
        return "none"
    return "done"


def answer_text(house, book, word, what):
    """The text of a word that changes nothing and runs nothing."""
    if word == "size":
        return str(len(house))
    if word == "names":
        return names_text(book, what[0])
    mark = book.mark(what[0])
    if word == "rows":
        return " ; ".join(book.rows(what[0]))
    if word == "calls":
        return parted(house.calls(mark))
    if word == "leans":
        return parted(house.called_by(mark))
    return mark


def names_text(book, mark):
    """The text of the names that lead to the mark; of all names and their marks where it is empty."""
    if mark != "":
        return parted(book.names_of(mark))
    return parted([name + "#" + other for name, other in book.names()])


def run_text(house, book, most, what):
    """The text of what a name and numbers come to, in most steps."""
    name, numbers = what
    number, steps = ran(house, book.mark(name), numbers, most=most)
    return str(number) + " " + str(steps)
