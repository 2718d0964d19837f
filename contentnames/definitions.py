"""Definitions as a house has them: how many arguments a mark's has, and its term."""

from contentnames.errors import BadCall
from contentnames.terms import with_heads


def many_of(house, mark):
    """How many arguments the mark's definition has; refused with NoMark."""
    return house.content(mark)[0][0]


def term_of(house, mark):
    """The term of the mark's definition, ring calls being calls of the marks in its ring; refused with NoMark."""
    heads = {("ring", place): ("call", called) for place, called in enumerate(house.ring(mark))}
    return with_heads(house.content(mark)[0][1], heads)


def look_at_numbers(house, mark, numbers):
    """Refuses with NoMark, then with BadCall where there are more or fewer numbers than arguments."""
    if len(numbers) != many_of(house, mark):
        raise BadCall(mark)
