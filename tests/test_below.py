"""How many pairs have a sum below a number, and of at most it [1, 2, 5]."""

import random
import time
import unittest

from sumplace.below import sums_below, sums_to
from sumplace.rows import joined, many_below, many_to
from tests.helpers import FAR, small_rows


def all_sums(one, other):
    """The sums of all pairs, rising."""
    return sorted(first + second for first in one for second in other)


class TestSums(unittest.TestCase):
    def check(self, one, other, numbers):
        one_before, other_before = list(one), list(other)
        sums = all_sums(one, other)
        for number in numbers:
            below, at_most = sums_below(one, other, number), sums_to(one, other, number)
            self.assertIs(type(below), int)
            self.assertIs(type(at_most), int)
            self.assertEqual(below, sum(1 for own in sums if own < number), number)
            self.assertEqual(at_most, sum(1 for own in sums if own <= number), number)
        self.assertEqual(one, one_before)
        self.assertEqual(other, other_before)

    def around(self, one, other):
        """Every unlike sum of the rows, one less, one more, and numbers far off."""
        sums = all_sums(one, other)
        near = {own + step for own in sums for step in (-1, 0, 1)}
        return sorted(near | {0, -FAR, FAR, -10 ** 15, 10 ** 15})

    def test_told_numbers(self):
        # The sums: 11, 12, 12, 13, 21, 22.
        one, other = [1, 2], [10, 11, 20]
        self.assertEqual([sums_below(one, other, n) for n in (11, 12, 13, 14, 21, 22, 23)], [0, 1, 3, 4, 4, 5, 6])
        self.assertEqual([sums_to(one, other, n) for n in (10, 11, 12, 13, 20, 21, 22)], [0, 1, 3, 4, 4, 5, 6])

    def test_rows_of_none(self):
        for one, other in (([], []), ([], [1, 2]), ([1, 2], [])):
            for number in (-FAR, -1, 0, 1, 2, 3, FAR):
                self.assertEqual(sums_below(one, other, number), 0)
                self.assertEqual(sums_to(one, other, number), 0)

    def test_rows_of_one_number(self):
        self.check([3], [-5], range(-5, 3))
        self.check([3], [-5, -1, 4], range(-5, 10))
        self.check([-5, -1, 4], [3], range(-5, 10))

    def test_like_numbers_count_each_by_its_place(self):
        self.assertEqual(sums_below([4] * 5, [2] * 7, 7), 35)
        self.assertEqual(sums_to([4] * 5, [2] * 7, 6), 35)
        self.assertEqual(sums_below([4] * 5, [2] * 7, 6), 0)
        self.assertEqual(sums_to([4] * 5, [2] * 7, 5), 0)

    def test_every_pair_of_small_rows(self):
        for one in small_rows(3):
            for other in small_rows(3):
                self.check(one, other, range(-5, 6))

    def test_numbers_below_nought(self):
        one, other = [-9, -7, -7, -1], [-20, -6, -6, -2]
        self.check(one, other, self.around(one, other))

    def test_far_numbers(self):
        one, other = [-10 ** 15, -10 ** 15 + 1, 0, 10 ** 15], [-10 ** 15, -1, 10 ** 15 - 1, 10 ** 15]
        self.check(one, other, self.around(one, other))
        for far in (2 * 10 ** 15 + 1, 10 ** 30, FAR):
            self.assertEqual((sums_below(one, other, -far), sums_to(one, other, -far)), (0, 0))
            self.assertEqual((sums_below(one, other, far), sums_to(one, other, far)), (16, 16))

    def test_one_list_handed_in_twice(self):
        row = [-3, 0, 0, 2, 7]
        self.check(row, row, self.around(row, row))

    def test_rows_of_unlike_lengths(self):
        chance = random.Random(3)
        for many, more in ((1, 40), (40, 1), (7, 60), (60, 7), (33, 34)):
            for spread in (4, 100, 10 ** 15):
                one = sorted(chance.randint(-spread, spread) for _ in range(many))
                other = sorted(chance.randint(-spread, spread) for _ in range(more))
                numbers = self.around(one, other)
                self.check(one, other, numbers[:: max(1, len(numbers) // 60)] + numbers[-1:])

    def test_joined_rows_of_more_than_three_hundred(self):
        one = joined(list(range(0, 600, 2)), list(range(0, 900, 3)))
        other = joined(list(range(-300, 0)), [5] * 300)
        sums = all_sums(one, other)
        for number in (sums[0], sums[1000], sums[180000], sums[-1]):
            self.assertEqual(sums_below(one, other, number), many_below(sums, number))
            self.assertEqual(sums_to(one, other, number), many_to(sums, number))

    def test_rows_of_three_hundred_in_a_time_that_nobody_notices(self):
        chance = random.Random(8)
        one = sorted(chance.randint(-10 ** 15, 10 ** 15) for _ in range(300))
        other = sorted(chance.randint(-10 ** 15, 10 ** 15) for _ in range(300))
        sums = all_sums(one, other)
        begin = time.process_time()
        # Pair by pair, these 3000 counts would look at 270,000,000 pairs.
        for place in range(0, 90000, 60):
            self.assertEqual(sums_below(one, other, sums[place]), many_below(sums, sums[place]))
            self.assertEqual(sums_to(one, other, sums[place]), many_to(sums, sums[place]))
        self.assertLess(time.process_time() - begin, 6)

    def test_behind_a_change_the_rows_are_counted_anew(self):
        one, other = [1, 2], [10]
        self.assertEqual((sums_below(one, other, 12), sums_to(one, other, 12)), (1, 2))
        other.insert(0, 0)
        one.append(2)
        self.assertEqual((sums_below(one, other, 12), sums_to(one, other, 12)), (4, 6))


class TestTheWhole(unittest.TestCase):
    """One order of all sums, told in more than one way [2]."""

    ROWS = ([-4, -4, 0, 3, 9], [-8, -1, -1, 2, 6, 6])

    def test_the_counts_fit_the_one_order(self):
        one, other = self.ROWS
        for place, own in enumerate(all_sums(one, other)):
            self.assertLessEqual(sums_below(one, other, own), place)
            self.assertGreater(sums_to(one, other, own), place)

    def test_the_rows_changed_about_tell_the_same_counts(self):
        one, other = self.ROWS
        for number in range(-15, 20):
            self.assertEqual(sums_below(one, other, number), sums_below(other, one, number))
            self.assertEqual(sums_to(one, other, number), sums_to(other, one, number))

    def test_beside_a_row_of_nought_the_sums_are_the_row(self):
        row = [-8, -1, -1, 2, 6, 6]
        for number in range(-10, 10):
            self.assertEqual(sums_below([0], row, number), many_below(row, number))
            self.assertEqual(sums_to(row, [0], number), many_to(row, number))


if __name__ == "__main__":
    unittest.main()
