"""Like sums: how many pairs have each sum of two rows, and which sum is nearest to a number."""

from sumplace.rows import many_below


def like_sums(one, other):
    """All unlike sums, rising, with how many pairs have each: a list of tuples (sum, how many)."""
    many = {}
    for first in one:
        for second in other:
            total = first + second
            many[total] = many.get(total, 0) + 1
    return sorted(many.items())


def most_sum(one, other):
    """(sum, how many): the sum that the most pairs have, of several the least; None where there is no pair."""
    # Of several, max tells the one that it meets first, and the sums rise.
    return max(like_sums(one, other), key=lambda like: like[1], default=None)


def nearest(one, other, number):
    """(sum, place of one, place of other): the first pair of those nearest to the number; None where there is none."""
    near = []
    for first, own in enumerate(one):
        for second in near_places(other, number - own):
            total = own + other[second]
            near.append((abs(total - number), total, first, second))
    if not near:
        return None
    return min(near)[1:]


def near_places(row, number):
    """The places of the next number below a number and of the next one from it on, of like ones the first."""
    places = []
    place = many_below(row, number)
    if place > 0:
        places.append(many_below(row, row[place - 1]))
    if place < len(row):
        places.append(place)
    return places
