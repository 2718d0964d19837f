"""Keeping the contents of bodies in a house."""

from contentnames.contents import MOST_BODIES, mark_of
from contentnames.errors import Taken, TooLong
from contentnames.rings import contents_of, rings_of
from contentnames.sharing import unpacked


def look_at_rings(bodies):
    """Refuses with TooLong bodies of which more are of one ring than a content can have."""
    if any([len(ring) > MOST_BODIES for ring in rings_of(bodies)]):
        raise TooLong(MOST_BODIES)


def kept_marks(house, bodies):
    """Puts the content of each body; tells the list of their marks, by places.

    Refused with Taken of the least mark that is another content's, there or among these.
    """
    contents = contents_of(bodies)
    marks = [mark_of(content) for content in contents]
    look_at_marks(house, marks, contents)
    # One content of a ring brings the others, and a ring stands behind those that it calls.
    unpacked(house, [contents[ring[0]] for ring in rings_of(bodies)])
    return marks


def look_at_marks(house, marks, contents):
    """Refuses with Taken the least of marks that is another content's, there or among these."""
    found = {}
    taken = []
    for mark, content in zip(marks, contents):
        if house.has(mark):
            found[mark] = house.content(mark)
        if found.setdefault(mark, content) != content:
            taken.append(mark)
    if taken:
        raise Taken(min(taken))
