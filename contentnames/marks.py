"""Marks: what a text is reckoned to."""

SIGNS = "0123456789abcdefghijklmnopqrstuvwxyz #@();:"
BASE = 36
MARK_LENGTH = 6
FIRST_NUMBER = 7
FACTOR = 131
# Below BASE ** MARK_LENGTH, so that every number that is left over has room in a mark.
MODULUS = 998244353


def mark_of_text(text):
    """The mark of a text of SIGNS."""
    number = FIRST_NUMBER
    for sign in text:
        number = (number * FACTOR + SIGNS.index(sign) + 1) % MODULUS
    return mark_of_number(number)


def mark_of_number(number):
    """The number to the base 36, noughts ahead."""
    mark = ""
    for _ in range(MARK_LENGTH):
        mark = SIGNS[number % BASE] + mark
        number = number // BASE
    return mark
