"""How the names of two branches come together."""

MINE = "mine"
ITS = "its"


def merged(base, one, other):
    """The pair of the names as both lead them, by what they were at first, and of those that clash.

    A name that clashes is led as one leads it; told of it is (name, base's mark, one's, other's), "" where there
    is none.
    """
    ahead, ours, theirs = dict(base), dict(one), dict(other)
    pairs = []
    clashes = []
    for name in sorted(set(list(ahead) + list(ours) + list(theirs))):
        was, mine, its = ahead.get(name, ""), ours.get(name, ""), theirs.get(name, "")
        if mine != its and was not in (mine, its):
            clashes.append((name, was, mine, its))
        # Where one leads it as it was, other has it otherwise or alike.
        mark = its if mine == was else mine
        if mark != "":
            pairs.append((name, mark))
    return (pairs, clashes)


def shows_merged(base, one, other, thing):
    """Whether the thing is just what merged tells of these."""
    return thing == merged(base, one, other)
