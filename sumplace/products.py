"""Products: the pairs of two rows ordered by first times second."""

from sumplace.places import check_place, number_at, pair_at, span_of
from sumplace.rows import many_below, many_to


def products_below(one, other, number):
    """How many pairs (place of one, place of other) have a product below the number."""
    return sum([seconds_below(first, other, number) for first in one])


def seconds_below(first, other, number):
    """How many numbers of the second row have with a first one a product below the number."""
    if first > 0:
        # Rounded up: as the second numbers are whole, just those below this have a product below the number.
        return many_below(other, -(-number // first))
    if first < 0:
        # Times a number below 0 the row falls: the low products are those of its last numbers.
        return len(other) - many_to(other, number // first)
    return len(other) if number > 0 else 0


def product_at(one, other, place):
    """(product, place of one, place of other): the pair at a place of the order; NoPlace of what is none."""
    check_place(place, len(one) * len(other))
    told = bare_product_at(one, other, place)
    rest = place - products_below(one, other, told)
    first, second = pair_at([seconds_span(number, other, told) for number in one], rest)
    return (told, first, second)


def bare_product_at(one, other, place):
    """The product at a place, without the pair that has it; the place is one."""
    # Whatever the signs, the least and the greatest product are those of two ends.
    ends = [first * second for first in (one[0], one[-1]) for second in (other[0], other[-1])]
    return number_at(place, min(ends), max(ends), lambda number: products_below(one, other, number))


def seconds_span(first, other, told):
    """(begin, end): the places of the second row whose numbers have with a first one just the product told."""
    if first == 0:
        return (0, len(other)) if told == 0 else (0, 0)
    if told % first != 0:
        return (0, 0)
    return span_of(other, told // first)
