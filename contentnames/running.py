"""Running definitions of a house."""

from contentnames.definitions import look_at_numbers
from contentnames.machine import Run

LIMIT = 1000


def ran(house, mark, numbers, *, most=LIMIT):
    """The pair of what the definition comes to with these numbers, and of how many steps that takes.

    Refused with NoMark, BadCall or TooLong, in this order.
    """
    look_at_numbers(house, mark, numbers)
    run = Run(house, most)
    number = run.number_of(mark, numbers)
    return (number, run.steps)
