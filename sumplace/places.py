"""What all orders of pairs have in common: their places, and the way to what stands at one."""

from sumplace.errors import NoPlace
from sumplace.rows import is_whole, many_below, many_to


def check_place(thing, many):
    """Refuse anything but a whole number from 0 on, below many."""
    # The message leaves out what was handed in: showing it may go too deep, or be too long.
    if not is_whole(thing) or not 0 <= thing < many:
        raise NoPlace("no such place")


def number_at(place, low, high, count_below):
    """The number at a place of an order of whole numbers from low to high, of which count_below(number) are below it.

    The order has more numbers than the place tells.
    """
    while low < high:
        half = (low + high) // 2
        if count_below(half + 1) > place:
            high = half
        else:
            low = half + 1
    return low


def span_of(row, number):
    """(begin, end): the number stands in the row at the places from begin on, ahead of end."""
    return (many_below(row, number), many_to(row, number))


def pair_at(spans, place):
    """The pair at a place of the order of (place of a span, place within it), spans being (begin, end)."""
    first = 0
    begin, end = spans[0]
    while place >= end - begin:
        place -= end - begin
        first += 1
        begin, end = spans[first]
    return (first, begin + place)
