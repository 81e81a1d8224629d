"""What several tests need."""

from itertools import combinations_with_replacement

from sumplace.errors import NoCommand, NoNumber, NoPlace, NoSide, NoText, SumError

# How far a number that is asked for may lie off, either way.
FAR = 10 ** 40

REFUSALS = (NoPlace, NoSide, NoNumber, NoText, NoCommand)


def small_rows(longest):
    """All rows of up to so many numbers from -2 to 2."""
    return [
        list(numbers)
        for many in range(longest + 1)
        for numbers in combinations_with_replacement(range(-2, 3), many)
    ]


def nested(deep, wrap):
    """Something in so many lists or tuples, one within the other; wrap(thing, at) makes one."""
    thing = 0
    for at in range(deep):
        thing = wrap(thing, at)
    return thing


# Nothing made by these may come into a failing test's message: showing it would recurse too deep.
def deep_things():
    yield nested(50000, lambda thing, at: [thing])
    yield nested(50000, lambda thing, at: (thing,))
    yield nested(50000, lambda thing, at: [thing] if at % 2 else (thing,))
    yield nested(50000, lambda thing, at: (thing,) if at % 2 else [thing])
    yield nested(5000, lambda thing, at: [at, thing])
    yield nested(5000, lambda thing, at: [thing, at])


def no_wholes():
    """Things of any kind that are no whole number."""
    yield from (True, False, "", "0", "1", "a place", None, [], [0], [1, 2], (), (0,), (1, 2), {}, {0: 1}, {"a": [0]})
    yield from (b"", b"0", {0}, range(1), object(), int, no_wholes)
    yield from deep_things()


def no_places(many):
    """Things of any kind that are no whole number from 0 on below many."""
    yield from (many, many + 1, 2 * many + 7, 10 ** 15, FAR, FAR ** 200)
    yield from (-1, -2, -many - 1, -10 ** 15, -FAR, -FAR ** 200)
    yield from no_wholes()


def refuses(case, call, things, refusal=NoPlace):
    """Let the case fail unless the call tells the refusal, and none of the others, of each of the things."""
    others = tuple(other for other in REFUSALS if other is not refusal)
    for at, thing in enumerate(things):
        # The thing itself may be too deep to be shown.
        with case.subTest(at=at, kind=type(thing).__name__):
            with case.assertRaises(refusal) as caught:
                call(thing)
            case.assertIsInstance(caught.exception, SumError)
            case.assertIsInstance(caught.exception, ValueError)
            case.assertNotIsInstance(caught.exception, others)


def drawn_row(chance, many, spread):
    """A row of so many numbers from -spread to spread."""
    return sorted(chance.randint(-spread, spread) for _ in range(many))


def all_pairs(one, other):
    """All pairs (sum, place of one, place of other), in their order."""
    return sorted((first + second, i, j) for i, first in enumerate(one) for j, second in enumerate(other))


def check_whole_tuple(case, told, many):
    """Let the case fail unless told is a tuple of so many whole numbers."""
    case.assertIs(type(told), tuple)
    case.assertEqual([type(part) for part in told], [int] * many)
