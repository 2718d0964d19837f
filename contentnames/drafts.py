"""The drafts of rows that are told to a book, and where their calls lead.

Drafts are the triples (name, many, draft) of the rows, which stand at the places of these.
"""

from contentnames.definitions import many_of
from contentnames.errors import BadCall, NoName, Twice
from contentnames.rows import row_in
from contentnames.terms import call_terms, with_heads


def drafts_of(rows):
    """The drafts of the rows; refused with BadRow, then with Twice of the first whose name an earlier one has."""
    drafts = [row_in(text) for text in rows]
    names = names_in(drafts)
    for place, name in enumerate(names):
        if name in names[:place]:
            raise Twice(name)
    return drafts


def names_in(drafts):
    """The names of the rows."""
    return [name for name, _, _ in drafts]


def heads_of(drafts, names, seats):
    """Where calls lead: of each word and what it calls, the pair of these that is to stand there instead.

    Names has the mark to which the book leads each name; seats has the place of the body that a call of a mark
    is to be of, for those marks of which it is.
    """
    heads = {("call", mark): ("ring", place) for mark, place in seats.items()}
    for name, mark in names.items():
        heads[("name", name)] = heads.get(("call", mark), ("call", mark))
    # A name that has a row leads there, wherever the book leads it.
    for place, name in enumerate(names_in(drafts)):
        heads[("name", name)] = ("ring", place)
    return heads


def look_at_calls(house, drafts, heads):
    """Refuses the first call that leads nowhere with NoName or NoMark, or with BadCall of the row that calls wrongly.

    Looked at row by row, call by call, a call ahead of those in its parts.
    """
    for name, _, draft in drafts:
        for call in call_terms(draft):
            word, called = heads.get(call[:2], call[:2])
            if len(call[2]) != many_called(house, drafts, word, called):
                raise BadCall(name)


def many_called(house, drafts, word, called):
    """How many arguments there are to what is called; refused with NoName or NoMark where there is nothing."""
    if word == "name":
        raise NoName(called)
    if word == "ring":
        return drafts[called][1]
    return many_of(house, called)


def marks_called(drafts, heads):
    """The marks that the rows call, but those in whose place a row is called."""
    calls = [call[:2] for _, _, draft in drafts for call in call_terms(draft)]
    found = [heads.get(call, call) for call in calls]
    return [called for word, called in found if word == "call"]


def row_bodies(drafts, heads):
    """The bodies of the rows."""
    return [(many, with_heads(draft, heads)) for _, many, draft in drafts]
