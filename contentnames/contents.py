"""Contents: tuples of bodies, the first being the definition itself, the others those of its ring."""

from contentnames.bodies import first_unfit, is_body, leads_of, met_from, ring_heads, with_all_heads
from contentnames.errors import BadText
from contentnames.groups import saying
from contentnames.marks import mark_of_text
from contentnames.terms import calls_of
from contentnames.termtext import number_in, term_in, term_text

MOST_BODIES = 12


def is_content(thing):
    """Whether the thing is a right content."""
    if not isinstance(thing, tuple) or not 1 <= len(thing) <= MOST_BODIES:
        return False
    if not all([is_body(body) for body in thing]) or first_unfit(thing) is not None:
        return False
    return is_numbered_ring(thing) and len(set(saying(thing))) == len(thing)


def is_numbered_ring(bodies):
    """Whether each place leads to each other one, and all are numbered as they are come to from the first."""
    leads = leads_of(bodies)
    places = list(range(len(bodies)))
    return met_from(0, leads) == places and all([0 in met_from(place, leads) for place in places])


def content_text(content):
    """The text of the content."""
    return ";".join([str(many) + ":" + term_text(term) for many, term in content])


def content_in(text):
    """The right content of which this is the text; refused with BadText where there is none."""
    try:
        content = tuple([body_in(body_text) for body_text in text.split(";")])
    except BadText:
        # What is refused is the whole text, not the one body's.
        raise BadText(text) from None
    if not is_content(content):
        raise BadText(text)
    return content


def body_in(text):
    """The many, None where none is written, and the term of a body's text; refused with BadText without a term."""
    many, _, written = text.partition(":")
    return (number_in(many), term_in(written))


def mark_of(content):
    """The mark of the content."""
    return mark_of_text(content_text(content))


def turned_to(content, place):
    """The right content of the same bodies of which the one at this place is the definition."""
    places = met_from(place, leads_of(content))
    return tuple(with_all_heads([content[old] for old in places], ring_heads(places)))


def calls_in(content):
    """The rising list of the marks that the content's terms call."""
    return sorted({mark for _, term in content for mark in calls_of(term)})
