"""What an update comes to: the bodies that it makes, in whose places they stand, and what waits.

Old is a dict of the marks to which the names of the rows led: of each the place of its row.
"""

from contentnames.definitions import many_of, term_of
from contentnames.drafts import heads_of, marks_called, names_in, row_bodies
from contentnames.errors import Torn
from contentnames.terms import call_terms, with_heads


def old_marks(drafts, names):
    """Old, for these rows; refused with Torn of the first row whose old mark an earlier one has."""
    old = {}
    for place, name in enumerate(names_in(drafts)):
        mark = names[name]
        if mark in old:
            raise Torn(mark)
        old[mark] = place
    return old


def planned(house, names, drafts, old):
    """The bodies of the rows and of the touched contents; of the latter's marks the places; what waits, and why.

    What waits is a dict: of each mark that does it has the pair (word, what).
    """
    # The names of the rows led to old marks, which are never touched: so no name has to be left out here.
    starts = list(names.values()) + marks_called(drafts, heads_of(drafts, names, old))
    touched = touched_marks(house, starts, old)
    waits = waits_of(house, touched, drafts, old)
    moved = [mark for mark in touched if mark not in waits]
    places = {mark: len(drafts) + number for number, mark in enumerate(moved)}
    heads = heads_of(drafts, names, {**old, **places})
    own = [(many_of(house, mark), with_heads(term_of(house, mark), heads)) for mark in moved]
    return (row_bodies(drafts, heads) + own, places, waits)


def touched_marks(house, starts, old):
    """The rising list of the marks that are touched, starts being those that are where they lean on an old one."""
    leaning = leaning_marks(house, old)
    touched = {}
    left = list(starts)
    while left:
        mark = left.pop()
        if mark in leaning and mark not in old and mark not in touched:
            touched[mark] = True
            left.extend(house.calls(mark))
    return sorted(touched)


def leaning_marks(house, old):
    """The marks that call an old one in one step or more, as the keys of a dict."""
    callers = {}
    for mark in house.marks():
        for called in house.calls(mark):
            callers.setdefault(called, []).append(mark)
    leaning = {}
    left = list(old)
    while left:
        mark = left.pop()
        for caller in callers.get(mark, []):
            if caller not in leaning:
                leaning[caller] = True
                left.append(caller)
    return leaning


def waits_of(house, touched, drafts, old):
    """Of each touched mark that waits the pair (word, what)."""
    calls = {mark: call_terms(term_of(house, mark)) for mark in touched}
    parts = {mark: misfits(calls[mark], drafts, old) for mark in touched}
    waiting = {mark: True for mark in touched if parts[mark]}
    more = list(waiting)
    while more:
        more = [mark for mark in touched if mark not in waiting and waiting_calls(calls[mark], waiting)]
        for mark in more:
            waiting[mark] = True
    waits = {}
    for mark in waiting:
        if parts[mark]:
            waits[mark] = ("parts", parts[mark][0])
        else:
            waits[mark] = ("leans", waiting_calls(calls[mark], waiting)[0])
    return waits


def misfits(calls, drafts, old):
    """The names of the rows to which these calls of old marks hand more or fewer parts than there are arguments."""
    places = [(old[mark], len(parts)) for _, mark, parts in calls if mark in old]
    return [drafts[place][0] for place, handed in places if handed != drafts[place][1]]


def waiting_calls(calls, waiting):
    """The marks that wait among those called, as they are called."""
    return [mark for _, mark, _ in calls if mark in waiting]
