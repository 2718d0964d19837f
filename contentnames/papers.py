"""Papers: lists of what calls come to, which show a value without running."""

from contentnames.definitions import look_at_numbers, many_of, term_of
from contentnames.machine import Run
from contentnames.reckoning import chosen, reckoned
from contentnames.running import LIMIT
from contentnames.terms import LARGEST, is_number_to, parts_of


def paper_of(house, mark, numbers, *, most=LIMIT):
    """The triples (mark, numbers, number) of the calls that are ended in this run, this one as the last.

    Refused as ran is.
    """
    look_at_numbers(house, mark, numbers)
    run = Run(house, most)
    run.number_of(mark, numbers)
    return [(called, handed, number) for (called, handed), number in run.ended.items()]


def shows_value(house, mark, numbers, number, thing):
    """Whether the thing is a paper that shows that the definition comes to number with these numbers.

    Refused with NoMark or BadCall.
    """
    look_at_numbers(house, mark, numbers)
    if not isinstance(thing, list) or not all([is_triple(house, triple) for triple in thing]):
        return False
    # What is no number is asked for first: True is alike 1 where the two are compared.
    if not is_number_to(LARGEST, number) or thing[-1:] != [(mark, tuple(numbers), number)]:
        return False
    shown = {}
    for called, handed, told in thing:
        if comes_to(term_of(house, called), handed, shown) != told:
            return False
        shown[(called, handed)] = told
    return True


def is_triple(house, thing):
    """Whether the thing is a mark that is there, as many numbers as it has arguments, and a number."""
    if not isinstance(thing, tuple) or len(thing) != 3:
        return False
    mark, numbers, number = thing
    if not isinstance(mark, str) or not house.has(mark) or not isinstance(numbers, tuple):
        return False
    if len(numbers) != many_of(house, mark):
        return False
    return is_number_to(LARGEST, number) and all([is_number_to(LARGEST, other) for other in numbers])


def comes_to(term, numbers, shown):
    """What the term comes to by the numbers of the calls that are shown, None where one that is begun is not."""
    word = term[0]
    if word == "num":
        return term[1]
    if word == "arg":
        return numbers[term[1]]
    if word == "if":
        number = comes_to(term[1], numbers, shown)
        return None if number is None else comes_to(chosen(term, number), numbers, shown)
    parts = [comes_to(part, numbers, shown) for part in parts_of(term)]
    if None in parts:
        return None
    if word == "call":
        return shown.get((term[1], tuple(parts)))
    one, other = parts
    return reckoned(word, one, other)
