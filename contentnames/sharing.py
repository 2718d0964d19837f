"""What houses bring one another."""

from contentnames.errors import NoMark
from contentnames.order import in_order


def parcel(house, marks, *, has=()):
    """The contents of the marks and of all that these call, but of no ring that has is part of, one of each ring.

    Each stands behind those that it calls. Refused with NoMark of the first of marks that is not there.
    """
    for mark in marks:
        if not house.has(mark):
            raise NoMark(mark)
    least = least_marks(house, marks, has)
    firsts = sorted({first for first in list(least.values())})
    needs = [ring_needs(house, first, least) for first in firsts]
    numbers = {first: number for number, first in enumerate(firsts)}
    order = in_order([[numbers[needed] for needed in others] for others in needs])
    return [house.content(firsts[number]) for number in order]


def least_marks(house, marks, has):
    """Of each mark that is to be brought, the least mark of its ring."""
    there = {mark: True for mark in has}
    least = {}
    left = list(marks)
    while left:
        mark = left.pop()
        ring = house.ring(mark)
        if mark not in least and not any([other in there for other in ring]):
            for other in ring:
                least[other] = min(ring)
                left.extend(house.calls(other))
    return least


def ring_needs(house, first, least):
    """The least marks of the other rings that are to be brought and that the ring of first calls."""
    called = {mark: True for other in house.ring(first) for mark in house.calls(other)}
    return sorted({least[mark] for mark in list(called) if mark in least and least[mark] != first})


def unpacked(house, contents):
    """Puts the contents, one behind the other; tells the rising list of the marks that were not there.

    Refused as put is of the first that is; then none of them is there.
    """
    ahead = house.marks()
    trial = house.like()
    for content in contents:
        trial.put(content)
    for content in contents:
        house.put(content)
    return sorted(set(house.marks()) - set(ahead))


def pulled(house, other, marks):
    """Unpacks into house what it does not have of the other's parcel of marks; told as unpacked tells it."""
    return unpacked(house, parcel(other, marks, has=house.marks()))
