"""Several rows: the ways to take a place of each, ordered by the sum of the numbers, then as lists of places are."""

from heapq import heappop, heappush

# Ways are not counted beyond this.
MOST = 500


def first_ways(rows, many):
    """The first so many ways, or all where there are fewer: a list of tuples (sum, list of places)."""
    told = []
    ahead = first_way(rows)
    while ahead and len(told) < many:
        total, places = heappop(ahead)
        told.append((total, places))
        for way in next_ways(rows, total, places):
            heappush(ahead, way)
    return told


def ways_to(rows, number):
    """How many ways have a sum of at most the number; 500 where there are 500 or more."""
    return len([way for way in first_ways(rows, MOST) if way[0] <= number])


def first_way(rows):
    """A list of the one way that takes the first place of each row; empty where a row is of none."""
    if not all(rows):
        return []
    return [(sum([row[0] for row in rows]), [0] * len(rows))]


def next_ways(rows, total, places):
    """The ways that take one place later in one row, behind which every place is still the first of its row.

    Each way but the first is a next one of just one other, which stands ahead of it in the order. So no way
    comes twice, and none too late.
    """
    ways = []
    for at in reversed(range(len(rows))):
        place = places[at]
        if place + 1 < len(rows[at]):
            step = rows[at][place + 1] - rows[at][place]
            ways.append((total + step, places[:at] + [place + 1] + places[at + 1:]))
        if place > 0:
            break
    return ways
