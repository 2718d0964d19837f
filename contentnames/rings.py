"""Rings: bodies that lead to one another, and the contents of bodies."""

from contentnames.bodies import first_unfit, leads_of, met_from, ring_heads, with_all_heads
from contentnames.contents import mark_of, turned_to
from contentnames.errors import Unfit
from contentnames.groups import saying


def rings_of(bodies):
    """The list of rings, each a rising list of places, behind those into which its calls lead.

    Refused with Unfit(place) of the first place that has a ring call that does not fit.
    """
    unfit = first_unfit(bodies)
    if unfit is not None:
        raise Unfit(unfit)
    leads = leads_of(bodies)
    met = [met_from(place, leads) for place in range(len(bodies))]
    rings = [ring_at(place, met) for place in range(len(bodies))]
    return in_order([ring for place, ring in enumerate(rings) if place == ring[0]], met)


def ring_at(place, met):
    """The rising list of the places that are of one ring with this one."""
    return [other for other in range(len(met)) if other in met[place] and place in met[other]]


def in_order(rings, met):
    """The rings, each behind those that are met from it; of several that may be next the first of rings."""
    told = []
    passed = {}
    left = rings
    while left:
        ring = [other for other in left if is_next(other, met, passed)][0]
        told.append(ring)
        passed.update({place: True for place in ring})
        left = [other for other in left if other != ring]
    return told


def is_next(ring, met, passed):
    """Whether all that is met from the ring is its own or passed."""
    return all([place in ring or place in passed for place in met[ring[0]]])


def contents_of(bodies):
    """The list of the content of each place.

    Refused with Unfit(place) of the first place that has a ring call that does not fit.
    """
    contents = {}
    marks = {}
    for ring in rings_of(bodies):
        found = ring_contents(bodies, ring, marks)
        for place, content in zip(ring, found):
            contents[place] = content
            marks[place] = mark_of(content)
    return [contents[place] for place in range(len(bodies))]


def ring_contents(bodies, ring, marks):
    """The list of the contents of the ring's places, where marks has those of the places into which it leads."""
    outer = {place: ("call", mark) for place, mark in marks.items()}
    inner = ring_heads(ring)
    alone = with_all_heads([bodies[place] for place in ring], {**outer, **inner})
    numbers = saying(alone)
    single = one_of_each(alone, numbers)
    told = [turned_to(single, number) for number in range(len(single))]
    return [told[number] for number in numbers]


def one_of_each(bodies, numbers):
    """Of the bodies of each number the first, the places of ring calls being these numbers."""
    heads = {place: ("ring", number) for place, number in enumerate(numbers)}
    firsts = [place for place, number in enumerate(numbers) if place == numbers.index(number)]
    return with_all_heads([bodies[place] for place in firsts], heads)
