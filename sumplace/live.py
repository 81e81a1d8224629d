"""A live pair of rows: numbers are put in and taken out, and the order of all sums is that of the rows of now."""

from sumplace.below import sums_below
from sumplace.errors import NoNumber, NoSide
from sumplace.manieth import sum_at
from sumplace.rows import is_whole, many_below

# A row of this many numbers, or more, takes no further one.
MOST = 300


class Live:
    """Two rows that can be changed, and the changes can be undone one by one, the last one first."""

    def __init__(self, one, other):
        self._rows = (list(one), list(other))
        # The changes that are not undone yet: (row, number, whether it was put in).
        self._done = []

    def put(self, side, number):
        """Put a number into the row of a side; NoSide; NoNumber of what is none, or of one too many."""
        row = self._row_of(side)
        if not is_whole(number) or len(row) >= MOST:
            raise NoNumber("no number that can be put there")
        put_in(row, number)
        self._done.append((row, number, True))

    def take(self, side, number):
        """Take one of the likes of a number out of the row of a side; NoSide; NoNumber of what is not there."""
        row = self._row_of(side)
        if not is_whole(number) or not stands_in(row, number):
            raise NoNumber("no number that can be taken there")
        take_out(row, number)
        self._done.append((row, number, False))

    def undo(self):
        """Undo the last change that is not undone yet, and tell True; False where there is none."""
        if not self._done:
            return False
        row, number, was_put = self._done.pop()
        if was_put:
            take_out(row, number)
        else:
            put_in(row, number)
        return True

    def rows(self):
        """Both rows of now: a tuple of two new lists."""
        return (list(self._rows[0]), list(self._rows[1]))

    def below(self, number):
        """How many sums of the rows of now are below the number."""
        return sums_below(self._rows[0], self._rows[1], number)

    def at(self, place):
        """(sum, place, place): the pair at a place of the order of the rows of now; NoPlace of what is none."""
        return sum_at(self._rows[0], self._rows[1], place)

    def _row_of(self, side):
        if not is_whole(side) or not 0 <= side <= 1:
            raise NoSide("no such side")
        return self._rows[side]


def stands_in(row, number):
    """Whether the number is one of the row."""
    place = many_below(row, number)
    return place < len(row) and row[place] == number


def put_in(row, number):
    """Put the number into the row, where it stays sorted."""
    row.insert(many_below(row, number), number)


def take_out(row, number):
    """Take one of the likes of the number out of the row, in which it stands."""
    del row[many_below(row, number)]
