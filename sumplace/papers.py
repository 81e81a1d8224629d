"""At which places pairs and sums stand in the order, and papers that show how many sums are below a number."""

from sumplace.below import sums_below, sums_to
from sumplace.errors import NoPlace
from sumplace.places import check_place, span_of
from sumplace.rows import is_whole, many_below


def place_of(one, other, pair):
    """The place in the order of a pair (place of one, place of other); NoPlace of what is no pair."""
    check_pair(pair, one, other)
    first, second = pair
    total = one[first] + other[second]
    # Of the pairs of like sums, those of earlier places in the first row stand ahead,
    # then those of the same place there and an earlier one in the second row.
    earlier = [span_of(other, total - number) for number in one[:first]]
    ahead = sum([end - begin for begin, end in earlier]) + second - many_below(other, other[second])
    return sums_below(one, other, total) + ahead


def check_pair(thing, one, other):
    """Refuse anything but a tuple of a place of one and a place of other."""
    if not isinstance(thing, tuple) or len(thing) != 2:
        raise NoPlace("no pair of places")
    check_place(thing[0], len(one))
    check_place(thing[1], len(other))


def places_of(one, other, number):
    """(begin, end): how many sums are below the number, and how many are at most it."""
    return (sums_below(one, other, number), sums_to(one, other, number))


def paper_of(one, other, number):
    """For each place of one, how many numbers of other have with its number a sum below the number."""
    return [many_below(other, number - own) for own in one]


def by_paper(one, other, number, thing):
    """How many pairs with a sum below the number anything shows as the paper of these; None where it is not that."""
    if not isinstance(thing, list) or len(thing) != len(one):
        return None
    for own, shown in zip(one, thing):
        if not shows(shown, other, number - own):
            return None
    return sum(thing)


def shows(thing, row, number):
    """Whether anything is how many numbers of the row are below the number."""
    if not is_whole(thing) or not 0 <= thing <= len(row):
        return False
    # The row rises, so a look at either side of where the count ends is enough: nothing is counted anew.
    if thing > 0 and row[thing - 1] >= number:
        return False
    return thing == len(row) or row[thing] >= number
