"""What several tests need."""

from itertools import combinations_with_replacement

# How far a number that is asked for may lie off, either way.
FAR = 10 ** 40


def small_rows(longest):
    """All rows of up to so many numbers from -2 to 2."""
    return [
        list(numbers)
        for many in range(longest + 1)
        for numbers in combinations_with_replacement(range(-2, 3), many)
    ]
