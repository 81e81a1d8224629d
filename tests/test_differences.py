"""The differences of two rows, and those within one [1, 2, 13, 14]."""

import random
import time
import unittest

from sumplace.differences import difference_at, differences_below, within_at, within_below
from sumplace.errors import NoPlace
from sumplace.rows import joined, many_below
from tests.helpers import FAR, check_whole_tuple, drawn_row, no_places, no_wholes, refuses, small_rows


def all_differences(one, other):
    """All pairs (difference, place of one, place of other), in their order."""
    return sorted((first - second, i, j) for i, first in enumerate(one) for j, second in enumerate(other))


def all_within(row):
    """All pairs (difference, earlier place, later place) of the row, in their order."""
    return sorted((row[j] - row[i], i, j) for i in range(len(row)) for j in range(i + 1, len(row)))


def around(pairs):
    """Every unlike difference of the pairs, one less, one more, and numbers far off."""
    near = {pair[0] + step for pair in pairs for step in (-1, 0, 1)}
    return sorted(near | {0, -1, 1, -10 ** 15, 10 ** 15, -FAR, FAR})


class TestTwoRows(unittest.TestCase):
    def check(self, one, other, numbers=None, places=None):
        """The counts below the numbers and what stands at the places, or all of them."""
        before = (list(one), list(other))
        pairs = all_differences(one, other)
        for number in around(pairs) if numbers is None else numbers:
            told = differences_below(one, other, number)
            self.assertIs(type(told), int)
            self.assertEqual(told, sum(1 for pair in pairs if pair[0] < number), (before, number))
        for place in range(len(pairs)) if places is None else places:
            told = difference_at(one, other, place)
            check_whole_tuple(self, told, 3)
            self.assertEqual(told, pairs[place], (before, place))
        self.assertEqual((one, other), before)

    def test_told_numbers(self):
        one, other = [1, 5], [2, 4, 4]
        self.assertEqual([differences_below(one, other, number) for number in range(-3, 5)], [0, 2, 2, 3, 3, 5, 5, 6])
        told = [difference_at(one, other, place) for place in range(6)]
        self.assertEqual(told, [(-3, 0, 1), (-3, 0, 2), (-1, 0, 0), (1, 1, 1), (1, 1, 2), (3, 1, 0)])

    def test_first_less_second_not_the_other_way(self):
        self.assertEqual(difference_at([10], [1], 0), (9, 0, 0))
        self.assertEqual(difference_at([1], [10], 0), (-9, 0, 0))
        self.assertEqual((differences_below([10], [1], 9), differences_below([10], [1], 10)), (0, 1))
        self.assertEqual((differences_below([1], [10], -9), differences_below([1], [10], -8)), (0, 1))

    def test_rows_of_none(self):
        for one, other in (([], []), ([], [1, 2]), ([1, 2], [])):
            for number in (-FAR, -1, 0, 1, FAR):
                self.assertEqual(differences_below(one, other, number), 0)

    def test_rows_of_one_number(self):
        self.check([3], [-5])
        self.check([3], [-5, -1, -1, 4])
        self.check([-5, -1, -1, 4], [3])

    def test_every_two_small_rows(self):
        for one in small_rows(3):
            for other in small_rows(3):
                self.check(one, other, range(-5, 6))

    def test_like_differences_by_the_first_rows_place_then_by_the_seconds(self):
        told = [difference_at([4] * 3, [-2] * 4, place) for place in range(12)]
        self.assertEqual(told, [(6, first, second) for first in range(3) for second in range(4)])
        self.check([1, 2, 3, 4], [1, 2, 3, 4])
        self.check([0, 0, 1, 1, 1], [-1, -1, 0, 0])
        self.check([1] * 6 + [2] * 6, [0] * 4 + [1] * 8)

    def test_numbers_below_nought_and_far_ones(self):
        self.check([-9, -7, -7, -1], [-20, -6, -6, -2])
        self.check([-10 ** 15, -10 ** 15 + 1, 0, 10 ** 15], [-10 ** 15, -1, 10 ** 15 - 1, 10 ** 15])

    def test_one_list_handed_in_twice(self):
        row = [-3, 0, 0, 2, 7]
        self.check(row, row)

    def test_rows_of_unlike_lengths(self):
        chance = random.Random(16)
        for many, more in ((1, 40), (40, 1), (7, 30), (30, 7), (17, 18)):
            for spread in (2, 30, 10 ** 15):
                one, other = drawn_row(chance, many, spread), drawn_row(chance, more, spread)
                numbers = around(all_differences(one, other))
                self.check(one, other, numbers[:: max(1, len(numbers) // 60)])

    def test_long_rows_in_a_time_that_nobody_notices(self):
        chance = random.Random(17)
        for spread in (5, 1000, 10 ** 15):
            one, other = drawn_row(chance, 300, spread), drawn_row(chance, 300, spread)
            # Joined rows may be longer.
            for first, second in ((one, other), (joined(one, other), joined(other, one[:150]))):
                pairs = all_differences(first, second)
                many = len(pairs)
                places = [0, 1, many // 2, many - 2, many - 1] + [chance.randrange(many) for _ in range(20)]
                begin = time.process_time()
                told = [difference_at(first, second, place) for place in places]
                counts = [differences_below(first, second, pairs[place][0]) for place in places]
                self.assertLess(time.process_time() - begin, 0.06 * len(places))
                self.assertEqual(told, [pairs[place] for place in places])
                differences = [pair[0] for pair in pairs]
                self.assertEqual(counts, [many_below(differences, pairs[place][0]) for place in places])

    def test_behind_a_change_the_rows_are_ordered_anew(self):
        one, other = [1, 2], [10]
        self.check(one, other)
        other.insert(0, 0)
        one.append(2)
        self.check(one, other)

    def test_what_is_no_place(self):
        one, other = [1, 2, 2], [-4, 0]
        refuses(self, lambda thing: difference_at(one, other, thing), no_places(6))
        self.assertEqual((one, other), ([1, 2, 2], [-4, 0]))
        self.check(one, other)

    def test_no_place_where_a_row_is_of_none(self):
        for one, other in (([], []), ([], [1, 2]), ([1, 2], [])):
            refuses(self, lambda thing: difference_at(one, other, thing), list(range(-3, 5)))
        refuses(self, lambda thing: difference_at([1, 2], [], thing), no_wholes())

    def test_what_is_refused_is_not_changed(self):
        for thing in ([], [2, 1], [[0], [1]], {1: [2]}, (0, [1])):
            before = repr(thing)
            with self.assertRaises(NoPlace):
                difference_at([1, 2], [3, 4], thing)
            with self.assertRaises(NoPlace):
                within_at([1, 2, 3], thing)
            self.assertEqual(repr(thing), before)


class TestWithinOneRow(unittest.TestCase):
    def check(self, row, numbers=None, places=None):
        """The counts below the numbers and what stands at the places, or all of them."""
        before = list(row)
        pairs = all_within(row)
        for number in around(pairs) if numbers is None else numbers:
            told = within_below(row, number)
            self.assertIs(type(told), int)
            self.assertEqual(told, sum(1 for pair in pairs if pair[0] < number), (before, number))
        for place in range(len(pairs)) if places is None else places:
            told = within_at(row, place)
            check_whole_tuple(self, told, 3)
            self.assertEqual(told, pairs[place], (before, place))
        self.assertEqual(row, before)

    def test_told_numbers(self):
        row = [1, 4, 4, 6]
        self.assertEqual([within_below(row, number) for number in range(-1, 7)], [0, 0, 1, 1, 3, 5, 5, 6])
        told = [within_at(row, place) for place in range(6)]
        self.assertEqual(told, [(0, 1, 2), (2, 1, 3), (2, 2, 3), (3, 0, 1), (3, 0, 2), (5, 0, 3)])

    def test_rows_of_none_and_of_one_number(self):
        for row in ([], [7], [-7]):
            for number in (-FAR, -1, 0, 1, 7, 8, FAR):
                self.assertEqual(within_below(row, number), 0)
            refuses(self, lambda thing: within_at(row, thing), list(range(-3, 4)))
            refuses(self, lambda thing: within_at(row, thing), no_places(0))

    def test_rows_of_two_numbers(self):
        self.assertEqual(within_at([-3, 9], 0), (12, 0, 1))
        self.assertEqual(within_at([5, 5], 0), (0, 0, 1))
        self.check([-3, 9])
        self.check([5, 5])

    def test_every_small_row(self):
        for row in small_rows(6):
            self.check(row, range(-2, 6))

    def test_like_numbers(self):
        told = [within_at([3] * 5, place) for place in range(10)]
        self.assertEqual(told, [(0, i, j) for i in range(5) for j in range(i + 1, 5)])
        self.assertEqual((within_below([3] * 5, 0), within_below([3] * 5, 1)), (0, 10))
        self.check([1] * 4 + [2] * 3 + [3] * 5)

    def test_like_differences_by_the_earlier_place_then_by_the_later(self):
        self.check([1, 2, 3, 4, 5, 6])
        self.check([0, 0, 2, 2, 4, 4, 4])

    def test_numbers_below_nought_and_far_ones(self):
        self.check([-20, -9, -7, -7, -1])
        self.check([-10 ** 15, -10 ** 15 + 1, -1, 0, 10 ** 15 - 1, 10 ** 15, 10 ** 15])

    def test_drawn_rows(self):
        chance = random.Random(18)
        for many in (3, 8, 20, 33):
            for spread in (2, 30, 10 ** 15):
                row = drawn_row(chance, many, spread)
                numbers = around(all_within(row))
                self.check(row, numbers[:: max(1, len(numbers) // 60)])

    def test_long_rows_in_a_time_that_nobody_notices(self):
        chance = random.Random(19)
        for spread in (0, 5, 1000, 10 ** 15):
            short = drawn_row(chance, 300, spread)
            for row in (short, joined(short, drawn_row(chance, 150, spread))):
                pairs = all_within(row)
                many = len(pairs)
                places = [0, 1, many // 2, many - 2, many - 1] + [chance.randrange(many) for _ in range(20)]
                begin = time.process_time()
                told = [within_at(row, place) for place in places]
                counts = [within_below(row, pairs[place][0]) for place in places]
                self.assertLess(time.process_time() - begin, 0.06 * len(places))
                self.assertEqual(told, [pairs[place] for place in places])
                differences = [pair[0] for pair in pairs]
                self.assertEqual(counts, [many_below(differences, pairs[place][0]) for place in places])

    def test_what_is_no_place(self):
        row = [1, 4, 4, 6]
        refuses(self, lambda thing: within_at(row, thing), no_places(6))
        self.assertEqual(row, [1, 4, 4, 6])
        self.check(row)

    def test_behind_a_change_the_row_is_ordered_anew(self):
        row = [1, 4]
        self.check(row)
        row.append(4)
        row.insert(0, -2)
        self.check(row)


class TestTheWhole(unittest.TestCase):
    """The counts and the so-manieth tell one order [2]."""

    def test_within_a_row_are_the_differences_of_it_less_itself_from_later_to_earlier(self):
        row = [-8, -1, -1, 2, 6, 6]
        less = [difference_at(row, row, place) for place in range(36)]
        within = sorted((told, earlier, later) for told, later, earlier in less if earlier < later)
        self.assertEqual([within_at(row, place) for place in range(15)], within)

    def test_as_many_are_below_what_stands_at_a_place_as_the_order_tells(self):
        one, other = [-4, -4, 0, 3, 9], [-8, -1, -1, 2, 6, 6]
        for place in range(30):
            told = difference_at(one, other, place)[0]
            self.assertLessEqual(differences_below(one, other, told), place)
            self.assertGreater(differences_below(one, other, told + 1), place)


if __name__ == "__main__":
    unittest.main()
