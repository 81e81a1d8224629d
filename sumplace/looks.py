"""Rows behind glass, whose numbers are known by looks alone, and the so-manieth sum by few looks."""

from sumplace.manieth import bare_sum_at
from sumplace.places import check_place


class Glass:
    """A row that is looked at number by number; the looks are counted."""

    def __init__(self, row):
        self._row = list(row)
        self._taken = 0

    def many(self):
        """How many numbers the row has."""
        return len(self._row)

    def look(self, place):
        """The number of a place, one look; NoPlace of what is none, no look."""
        check_place(place, len(self._row))
        self._taken += 1
        return self._row[place]

    def looks(self):
        """How many looks were taken."""
        return self._taken


def sum_by_looks(one, other, place):
    """The sum at a place of the order of two glasses' rows; NoPlace, without a look, of what is no such place."""
    check_place(place, one.many() * other.many())
    # Ahead of a pair stand all others of places that are not later in either row: at least as many as
    # either of its places tells. So neither of the wanted pair's places is above the place in the order.
    return bare_sum_at(first_numbers(one, place + 1), first_numbers(other, place + 1), place)


def first_numbers(glass, many):
    """The first so many numbers behind a glass, or all where it has fewer, by one look each."""
    return [glass.look(place) for place in range(min(glass.many(), many))]
