"""Which pair of two rows stands at a place of the order of all sums."""

from sumplace.below import sums_below
from sumplace.places import check_place, number_at, pair_at, span_of
from sumplace.rows import many_below, many_to


def bare_sum_at(one, other, place):
    """The sum at a place, without the pair that has it; the place is one."""
    return number_at(place, one[0] + other[0], one[-1] + other[-1], lambda number: sums_below(one, other, number))


def sum_at(one, other, place):
    """(sum, place of one, place of other): the pair at a place of the order; NoPlace of what is no such place."""
    check_place(place, len(one) * len(other))
    total = bare_sum_at(one, other, place)
    rest = place - sums_below(one, other, total)
    first, second = pair_at([span_of(other, total - number) for number in one], rest)
    return (total, first, second)


def middle(one, other):
    """The pair at the place of half of the count of pairs; NoPlace where there is none."""
    return sum_at(one, other, len(one) * len(other) // 2)


def pairs_ahead(one, other, place):
    """For each place of one, how many of its pairs stand ahead of a place from 0 to the count of pairs.

    As the second row rises, these are the pairs with its first so many numbers.
    """
    if place == len(one) * len(other):
        return [len(other)] * len(one)
    total, first, second = sum_at(one, other, place)
    # Among like sums those of an earlier place in the first row stand ahead, those of a later one do not.
    earlier = [many_to(other, total - number) for number in one[:first]]
    later = [many_below(other, total - number) for number in one[first + 1:]]
    return earlier + [second] + later
