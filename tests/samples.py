"""What several tests need: things, terms, bodies and contents to ask about, and slow ways to tell the same."""

import functools
import itertools

from contentnames.contents import mark_of, turned_to
from contentnames.house import House
from contentnames.rings import contents_of, rings_of
from contentnames.termtext import term_in

SIGNS = "0123456789abcdefghijklmnopqrstuvwxyz #@();:"
MODULUS = 998244353
MARK = "0k3f9a"
NUM = ("num", 1)


def things():
    """Things that are no terms at all, of each kind."""
    deep_list, deep_tuple = [], ()
    for _ in range(19):
        deep_list, deep_tuple = [deep_list], (deep_tuple,)
    wide = ("add", NUM, NUM)
    for _ in range(17):
        wide = ("add", wide, wide)
    return [0, 1, -1, 10 ** 30, True, False, None, "", "num", "add", "a", MARK, "(add a 1)",
            [], (), [[]], ((),), [()], ([],), (None,), (True,), (0,), (0, 1), (1, 2, 3), ("",),
            ((), ()), ([], 1), ([], [], []), (None, 1), (True, 1), ((("num",),), 1), deep_list, deep_tuple, wide]


def a_term(chance, deep):
    """Some term that is at most so deep."""
    word = chance.choice(["num", "arg", "add", "less", "times", "under", "if", "call", "ring"])
    if deep == 1 and word not in ("num", "arg", "call", "ring"):
        word = "num"
    if word == "num":
        return ("num", chance.choice([0, 1, 9, 10, 99, 1000000, 1000002, chance.randint(0, 1000002)]))
    if word == "arg":
        return ("arg", chance.randint(0, 3))
    if word in ("call", "ring"):
        parts = tuple(a_term(chance, deep - 1) for _ in range(chance.randint(0, 4) if deep > 1 else 0))
        if word == "ring":
            return ("ring", chance.randint(0, 11), parts)
        return ("call", "".join(chance.choice("0123456789abcdefghijklmnopqrstuvwxyz") for _ in range(6)), parts)
    return (word,) + tuple(a_term(chance, deep - 1) for _ in range(3 if word == "if" else 2))


def bodies_in(text):
    """The bodies that a text writes, right as a content or not."""
    bodies = []
    for body in text.split(";"):
        many, _, term = body.partition(":")
        bodies.append((int(many), term_in(term)))
    return bodies


def content_of(text):
    """The bodies that a text writes as a tuple."""
    return tuple(bodies_in(text))


def ring_calling(numbers):
    """Bodies in a ring, each adding its number to what the next one tells."""
    many = len(numbers)
    return [(0, ("add", ("num", number), ("ring", (at + 1) % many, ()))) for at, number in enumerate(numbers)]


def line_calling(many):
    """Bodies of which each calls the next one, and the last none."""
    return [(0, ("ring", at + 1, ())) for at in range(many - 1)] + [(0, NUM)]


def some_bodies(chance, many, marks=(), dense=0.5):
    """So many fitting bodies that are often alike, of which some call some of the others, or marks."""
    heads = [chance.choice([0, 0, 1, 2]) for _ in range(many)]

    def some_term(args, deep):
        draw = chance.random()
        if deep > 1 and draw < dense:
            place = chance.randrange(many)
            return ("ring", place, tuple(some_term(args, deep - 1) for _ in range(heads[place])))
        if deep > 1 and draw < dense + 0.15:
            return ("add", some_term(args, deep - 1), some_term(args, deep - 1))
        if marks and draw < dense + 0.3:
            return ("call", chance.choice(marks), ())
        if args and draw < 0.9:
            return ("arg", chance.randrange(args))
        return ("num", chance.choice([0, 0, 1]))

    return [(args, some_term(args, 3)) for args in heads]


def named_places(term):
    """The places of the ring calls, a call ahead of those in its parts, by going through all that is in it."""
    if term[0] == "ring":
        return [term[1]] + [place for part in term[2] for place in named_places(part)]
    inner = term[2] if term[0] == "call" else term[1:]
    return [place for part in inner if isinstance(part, tuple) for place in named_places(part)]


def moved(term, head):
    """The term with head(place) in the place of the ring calls' word and place."""
    if not isinstance(term, tuple):
        return term
    if term and term[0] == "ring":
        return head(term[1]) + (tuple(moved(part, head) for part in term[2]),)
    return tuple(moved(part, head) for part in term)


def reordered(bodies, order):
    """The bodies in another order, the one of place order[0] first, calling one another as before."""
    places = {old: new for new, old in enumerate(order)}
    return [(bodies[old][0], moved(bodies[old][1], lambda place: ("ring", places[place]))) for old in order]


def same_pairs(bodies):
    """All pairs of places that say the same: all that are alike, less those from which unlike ones are come to."""
    shapes = [(many, moved(term, lambda place: ("ring", None))) for many, term in bodies]
    pairs = {(one, other) for one, other in itertools.product(range(len(bodies)), repeat=2)
             if shapes[one] == shapes[other]}
    named = [named_places(term) for _, term in bodies]
    while True:
        kept = {(one, other) for one, other in pairs if all(pair in pairs for pair in zip(named[one], named[other]))}
        if kept == pairs:
            return pairs
        pairs = kept


def ways(bodies):
    """All pairs of places of which one leads to the other in one step or more."""
    pairs = {(place, led) for place, (_, term) in enumerate(bodies) for led in named_places(term)}
    for middle, one, other in itertools.product(range(len(bodies)), repeat=3):
        if (one, middle) in pairs and (middle, other) in pairs:
            pairs.add((one, other))
    return pairs


def numbered_from(bodies, start):
    """The bodies that are come to from start, numbered as a queue meets them."""
    places = [start]
    for place in places:
        for led in named_places(bodies[place][1]):
            if led not in places:
                places.append(led)
    return tuple((bodies[place][0], moved(bodies[place][1], lambda old: ("ring", places.index(old))))
                 for place in places)


def with_a_sign_changed(texts, signs):
    """All the texts that have one sign more, fewer or another, of these signs, than one of texts."""
    changed = {}
    for text in texts:
        for at in range(len(text) + 1):
            changed[text[:at] + text[at + 1:]] = True
            for sign in signs:
                changed[text[:at] + sign + text[at:]] = True
                changed[text[:at] + sign + text[at + 1:]] = True
    return list(changed)


def with_a_list(thing):
    """The thing with a list for one of the tuples in it, itself counted, for each of them."""
    if not isinstance(thing, tuple):
        return
    yield list(thing)
    for at, inner in enumerate(thing):
        for changed in with_a_list(inner):
            yield thing[:at] + (changed,) + thing[at + 1:]


def reckoned(text, number=7):
    """What a text is reckoned to, from this number on."""
    for sign in text:
        number = (number * 131 + SIGNS.index(sign) + 1) % MODULUS
    return number


@functools.cache
def heads_to_forge():
    """Of what texts of additions up to the first number are reckoned to, that number."""
    shift = pow(131, 7, MODULUS)
    return {reckoned("0:(add " + str(number) + " ") * shift % MODULUS: number for number in range(10000, 100000)}


def forged(mark, skipped=0):
    """Some content of one body that has this mark, another one for each number of skipped ones."""
    heads = heads_to_forge()
    for number in range(100000, 1000000):
        head = (int(mark, 36) - reckoned(str(number) + ")", 0)) % MODULUS
        if head in heads:
            if skipped == 0:
                return ((0, ("add", ("num", heads[head]), ("num", number))),)
            skipped -= 1
    raise AssertionError("no content was found for " + mark)


def house_with(text):
    """A house with the contents of the bodies that a text writes, and the marks of these, by places."""
    bodies = bodies_in(text)
    contents = contents_of(bodies)
    house = House()
    for ring in rings_of(bodies):
        house.put(contents[ring[0]])
    return house, [mark_of(content) for content in contents]


class Ended(Exception):
    """A run by hand would be longer than it may be."""


def run_by_hand(house, mark, numbers, most):
    """What a run comes to, its steps, and the calls that are ended in it, by calls within calls of Python's own."""
    steps = 0
    ended = []

    def called(mark, numbers):
        content = house.content(mark)
        told = begun(content[0][1], numbers, [mark_of(turned_to(content, place)) for place in range(len(content))])
        ended.append((mark, numbers, told))
        return told

    def begun(term, numbers, ring):
        nonlocal steps
        steps += 1
        if steps > most:
            raise Ended()
        word = term[0]
        if word == "num":
            return term[1]
        if word == "arg":
            return numbers[term[1]]
        if word == "if":
            first = begun(term[1], numbers, ring)
            return begun(term[2] if first else term[3], numbers, ring)
        parts = tuple(begun(part, numbers, ring) for part in (term[2] if word in ("call", "ring") else term[1:]))
        if word in ("call", "ring"):
            return called(term[1] if word == "call" else ring[term[1]], parts)
        one, other = parts
        if word == "under":
            return int(one < other)
        return {"add": one + other, "less": one - other, "times": one * other}[word] % 1000003

    return called(mark, tuple(numbers)), steps, ended


def marks_told_by(house):
    """All that a house has: its marks and their contents."""
    return [(mark, house.content(mark)) for mark in house.marks()]
