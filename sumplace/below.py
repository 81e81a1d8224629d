"""How many pairs of two rows have a sum below a number, or of at most it."""


def sums_below(one, other, number):
    """How many pairs (place of one, place of other) have a sum below the number."""
    many = 0
    end = len(other)
    for first in one:
        # The first numbers rise, so what was too much once stays too much: end never goes up again,
        # and both rows are gone through only once.
        while end > 0 and first + other[end - 1] >= number:
            end -= 1
        many += end
    return many


def sums_to(one, other, number):
    """How many pairs (place of one, place of other) have a sum of at most the number."""
    # Between a whole number and the next one there is none.
    return sums_below(one, other, number + 1)
