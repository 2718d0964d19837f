"""Terms: which things are terms, and what can be told of one."""

from contentnames.marks import BASE, MARK_LENGTH, SIGNS

LARGEST = 1000002
LAST_ARG = 3
LAST_PLACE = 11
MOST_PARTS = 4
DEEPEST = 8
# The words of which the terms stand straight behind the word, and how many.
OPERATIONS = {"add": 2, "less": 2, "times": 2, "under": 2, "if": 3}
# The words of which what is called stands behind the word, then the parts. Only drafts call by a name.
CALLS = ("call", "ring", "name")


def is_mark(thing):
    """Whether the thing is a text of six figures and letters a to z."""
    if not isinstance(thing, str) or len(thing) != MARK_LENGTH:
        return False
    return all([sign in SIGNS[:BASE] for sign in thing])


def is_number_to(most, thing):
    """Whether the thing is a number from 0 to most."""
    return isinstance(thing, int) and not isinstance(thing, bool) and 0 <= thing <= most


def is_term(thing):
    """Whether the thing is a term, of any size."""
    return is_term_within(DEEPEST, thing)


def is_term_within(deep, thing):
    """Whether the thing is a term that is at most so deep."""
    # The depth is asked ahead of all else, so that deep things are not gone through to their ends.
    if deep == 0 or not is_headed(thing):
        return False
    return all([is_term_within(deep - 1, part) for part in parts_of(thing)])


def is_headed(thing):
    """Whether the thing would be a term if its parts were terms."""
    if not isinstance(thing, tuple) or len(thing) == 0:
        return False
    word = thing[0]
    # Only a text may be looked for in OPERATIONS: a list there would be an error.
    if not isinstance(word, str):
        return False
    if word in OPERATIONS:
        return len(thing) == 1 + OPERATIONS[word]
    if word == "num":
        return len(thing) == 2 and is_number_to(LARGEST, thing[1])
    if word == "arg":
        return len(thing) == 2 and is_number_to(LAST_ARG, thing[1])
    if word == "call":
        return len(thing) == 3 and is_mark(thing[1]) and is_parts(thing[2])
    if word == "ring":
        return len(thing) == 3 and is_number_to(LAST_PLACE, thing[1]) and is_parts(thing[2])
    return False


def is_parts(thing):
    """Whether the thing can be the parts of a call, whatever stands in it."""
    return isinstance(thing, tuple) and len(thing) <= MOST_PARTS


def parts_of(term):
    """The terms that stand straight in this one, from left to right."""
    if term[0] in OPERATIONS:
        return term[1:]
    if term[0] in CALLS:
        return term[2]
    return ()


def terms_of(term):
    """The term and all terms in it, from left to right, each ahead of those in it."""
    terms = [term]
    for part in parts_of(term):
        terms.extend(terms_of(part))
    return terms


def deep_of(term):
    """How deep the term is."""
    return 1 + max([deep_of(part) for part in parts_of(term)], default=0)


def size_of(term):
    """How many terms the term has, itself counted."""
    return len(terms_of(term))


def call_terms(term):
    """The calls in the term, from left to right, each ahead of those in its parts."""
    return [inner for inner in terms_of(term) if inner[0] in CALLS]


def calls_of(term):
    """The rising list of the marks that the term calls."""
    return sorted({inner[1] for inner in terms_of(term) if inner[0] == "call"})


def places_of(term):
    """The places of the term's ring calls, from left to right, each as often as it stands."""
    return [inner[1] for inner in terms_of(term) if inner[0] == "ring"]


def with_heads(term, heads):
    """The term in which each call stands as heads has it.

    Heads is a dict: of a call's word and what it calls it has the pair of these that takes their place. A call
    of which it has nothing stays as it is.
    """
    parts = tuple([with_heads(part, heads) for part in parts_of(term)])
    if term[0] in CALLS:
        word, called = heads.get(term[:2], term[:2])
        return (word, called, parts)
    if term[0] in OPERATIONS:
        return (term[0], *parts)
    return term
