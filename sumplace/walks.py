"""Walks through the order of all sums, pair by pair, onward and backward."""

from sumplace.manieth import pairs_ahead
from sumplace.places import check_place

# To find a place in the order takes about as long as to sort some thousand pairs. So a walk sorts that many
# around the place where it stands, and most of its steps, whichever way they go, only read one of these.
NEAR = 2000


class Walk:
    """A walk stands ahead of a pair of the order, or behind the last one."""

    def __init__(self, one, other, place):
        self._many = len(one) * len(other)
        check_place(place, self._many + 1)
        self._one = list(one)
        self._other = list(other)
        self._place = place
        # The pairs at the places from _begin on, as far as they are sorted by now.
        self._begin = 0
        self._pairs = []

    def onward(self):
        """The pair behind where the walk stands, and one step onward; None behind the last."""
        if self._place == self._many:
            return None
        self._place += 1
        return self._pair(self._place - 1)

    def backward(self):
        """The pair ahead of where the walk stands, and one step back; None ahead of the first."""
        if self._place == 0:
            return None
        self._place -= 1
        return self._pair(self._place)

    def left(self):
        """How many pairs are ahead of the walk in the way onward."""
        return self._many - self._place

    def _pair(self, place):
        if not self._begin <= place < self._begin + len(self._pairs):
            self._sort_around(place)
        return self._pairs[place - self._begin]

    def _sort_around(self, place):
        """Sort the pairs near a place, as many on either side: a walk that turns about stays among them."""
        self._begin = max(0, place - NEAR)
        begins = pairs_ahead(self._one, self._other, self._begin)
        ends = pairs_ahead(self._one, self._other, min(self._many, place + NEAR))
        self._pairs = sorted([
            (number + self._other[second], first, second)
            for first, number in enumerate(self._one)
            for second in range(begins[first], ends[first])
        ])
