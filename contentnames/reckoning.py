"""What the words of terms reckon."""

MODULUS = 1000003


def reckoned(word, one, other):
    """What add, less, times or under makes of two numbers."""
    if word == "under":
        return 1 if one < other else 0
    if word == "add":
        number = one + other
    elif word == "less":
        number = one - other
    else:
        number = one * other
    return number % MODULUS


def chosen(term, number):
    """The term that an if goes on with, number being that of its first one."""
    return term[3] if number == 0 else term[2]
