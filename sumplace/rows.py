"""Rows: lists of whole numbers, sorted, like ones side by side."""


def is_whole(thing):
    """Whether anything is a whole number: an int that is neither True nor False."""
    return isinstance(thing, int) and not isinstance(thing, bool)


def is_row(thing):
    """Whether anything is a list of whole numbers, none less than the one ahead."""
    if not isinstance(thing, list):
        return False
    for at, number in enumerate(thing):
        # Asked first: only whole numbers can be compared, whatever else may stand in a list.
        if not is_whole(number):
            return False
        if at > 0 and number < thing[at - 1]:
            return False
    return True


def joined(one, other):
    """A new row of all numbers of both rows."""
    return sorted(one + other)


def many_below(row, number):
    """How many numbers of the row are below the number."""
    low = 0
    high = len(row)
    while low < high:
        half = (low + high) // 2
        if row[half] < number:
            low = half + 1
        else:
            high = half
    return low


def many_to(row, number):
    """How many numbers of the row are at most the number."""
    # Between a whole number and the next one there is none.
    return many_below(row, number + 1)
