"""Rings: bodies that lead to one another, and the contents of bodies."""

from contentnames.bodies import first_unfit, leads_of, met_from, ring_heads, with_all_heads
from contentnames.contents import mark_of, turned_to
from contentnames.errors import Unfit
from contentnames.groups import saying
from contentnames.order import in_order


def rings_of(bodies):
    """The list of rings, each a rising list of places, behind those into which its calls lead.

    Refused with Unfit(place) of the first place that has a ring call that does not fit.
    """
    unfit = first_unfit(bodies)
    if unfit is not None:
        raise Unfit(unfit)
    leads = leads_of(bodies)
    met = [{other: True for other in met_from(place, leads)} for place in range(len(bodies))]
    rings = [ring for place, ring in enumerate(rings_at(met)) if place == ring[0]]
    return [rings[number] for number in in_order(ring_needs(rings, leads))]


def rings_at(met):
    """For each place the rising list of the places that are of one ring with it, met having those that each meets."""
    return [[other for other in sorted(ahead) if place in met[other]] for place, ahead in enumerate(met)]


def ring_needs(rings, leads):
    """For each ring the list of the numbers of the other rings into which its calls lead."""
    numbers = {place: number for number, ring in enumerate(rings) for place in ring}
    led = [sorted({numbers[other] for place in ring for other in leads[place]}) for ring in rings]
    return [[other for other in needed if other != number] for number, needed in enumerate(led)]


def contents_of(bodies):
    """The list of the content of each place.

    Refused with Unfit(place) of the first place that has a ring call that does not fit.
    """
    contents = {}
    marks = {}
    for ring in rings_of(bodies):
        found = ring_contents(bodies, ring, marks)
        for place, content in zip(ring, found):
            contents[place] = content
            marks[place] = mark_of(content)
    return [contents[place] for place in range(len(bodies))]


def ring_contents(bodies, ring, marks):
    """The list of the contents of the ring's places, where marks has those of the places into which it leads."""
    heads = ring_heads(ring)
    for place, mark in marks.items():
        heads[("ring", place)] = ("call", mark)
    alone = with_all_heads([bodies[place] for place in ring], heads)
    numbers = saying(alone)
    single = one_of_each(alone, numbers)
    told = [turned_to(single, number) for number in range(len(single))]
    return [told[number] for number in numbers]


def one_of_each(bodies, numbers):
    """Of the bodies of each number the first, the places of ring calls being these numbers."""
    heads = {("ring", place): ("ring", number) for place, number in enumerate(numbers)}
    firsts = [place for place, number in enumerate(numbers) if place == numbers.index(number)]
    return with_all_heads([bodies[place] for place in firsts], heads)
