"""An order in which each stands behind what it needs."""

from heapq import heappop, heappush


def in_order(needs):
    """The numbers of needs, each behind those that it needs; of several that may be next the least.

    Needs is a list; for each number it has the list of the other numbers that it needs, none twice.
    """
    needed_by = [[] for _ in needs]
    for number, needed in enumerate(needs):
        for other in needed:
            needed_by[other].append(number)
    left = [len(needed) for needed in needs]
    # What rises is a heap as it is.
    free = [number for number, many in enumerate(left) if many == 0]
    told = []
    while free:
        number = heappop(free)
        told.append(number)
        for other in needed_by[number]:
            left[other] = left[other] - 1
            if left[other] == 0:
                heappush(free, other)
    return told
