"""Differences: the pairs of two rows by first less second, those within one row by later less earlier."""

from sumplace.below import sums_below
from sumplace.manieth import bare_sum_at
from sumplace.places import check_place, number_at, pair_at, span_of


def negative(row):
    """The row of the numbers with their signs turned: a difference is a sum with one of these."""
    return [-number for number in row[::-1]]


def differences_below(one, other, number):
    """How many pairs (place of one, place of other) have a difference below the number."""
    return sums_below(one, negative(other), number)


def difference_at(one, other, place):
    """(difference, place of one, place of other): the pair at a place of the order; NoPlace of what is none."""
    check_place(place, len(one) * len(other))
    turned = negative(other)
    difference = bare_sum_at(one, turned, place)
    rest = place - sums_below(one, turned, difference)
    # Like differences are told apart in the second row itself, whose places go the other way than the turned row's.
    first, second = pair_at([span_of(other, number - difference) for number in one], rest)
    return (difference, first, second)


def within_below(row, number):
    """How many pairs (earlier place, later place) of the row have a difference below the number."""
    many = 0
    begin = 0
    for later, high in enumerate(row):
        # The later numbers rise, so an earlier one that was too far below stays so: begin never goes back.
        while begin < later and high - row[begin] >= number:
            begin += 1
        many += later - begin
    return many


def within_at(row, place):
    """(difference, earlier place, later place): the pair at a place of the order; NoPlace of what is none."""
    check_place(place, len(row) * (len(row) - 1) // 2)
    difference = number_at(place, 0, row[-1] - row[0], lambda number: within_below(row, number))
    rest = place - within_below(row, difference)
    earlier, later = pair_at(later_spans(row, difference), rest)
    return (difference, earlier, later)


def later_spans(row, difference):
    """For each place of the row (begin, end) of the later ones whose number is more by the difference."""
    spans = []
    for place, number in enumerate(row):
        begin, end = span_of(row, number + difference)
        # Of like numbers, some stand at the place itself or ahead of it.
        spans.append((max(begin, place + 1), end))
    return spans
