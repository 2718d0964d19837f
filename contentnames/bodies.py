"""Bodies: pairs (many, term) in a list, which call one another by ring calls of their places."""

from contentnames.terms import MOST_PARTS, is_number_to, is_term, places_of, terms_of, with_heads


def is_body(thing):
    """Whether the thing is a body, wherever its ring calls lead."""
    if not isinstance(thing, tuple) or len(thing) != 2:
        return False
    many, term = thing
    # A call hands one part for each argument, so both have one bound.
    if not is_number_to(MOST_PARTS, many) or not is_term(term):
        return False
    return all([inner[1] < many for inner in terms_of(term) if inner[0] == "arg"])


def first_unfit(bodies):
    """The first place that has a ring call that does not fit, None where there is none."""
    for place, (_, term) in enumerate(bodies):
        if not all([is_fit(bodies, inner) for inner in terms_of(term) if inner[0] == "ring"]):
            return place
    return None


def is_fit(bodies, call):
    """Whether the ring call names a place that there is and hands as many parts as that one has arguments."""
    place, parts = call[1:]
    return 0 <= place < len(bodies) and len(parts) == bodies[place][0]


def leads_of(bodies):
    """For each place the list of the places that its term names, as they stand in it."""
    return [places_of(term) for _, term in bodies]


def met_from(start, leads):
    """The places that are come to from start, itself first, in the order in which a queue meets them."""
    queue = [start]
    met = {start: True}
    front = 0
    while front < len(queue):
        named = leads[queue[front]]
        for place in named:
            if place not in met:
                met[place] = True
                queue.append(place)
        front += 1
    return queue


def with_all_heads(bodies, heads):
    """The bodies in which each call stands as heads has it."""
    return [(many, with_heads(term, heads)) for many, term in bodies]


def ring_heads(places):
    """The heads by which the ring calls of these places are ring calls of 0, 1 and so on."""
    return {("ring", place): ("ring", number) for number, place in enumerate(places)}
