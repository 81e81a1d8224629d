"""Like sums, the most common one, and the nearest one [1, 2, 6, 19, 20, 21]."""

import random
import time
import unittest

from sumplace.below import sums_below, sums_to
from sumplace.likes import like_sums, most_sum, nearest
from sumplace.manieth import sum_at
from tests.helpers import FAR, all_pairs, check_whole_tuple, drawn_row, small_rows

NO_PAIRS = (([], []), ([], [1, 2]), ([1, 2], []))


def all_likes(one, other):
    """All unlike sums with how many pairs have each, rising."""
    sums = [pair[0] for pair in all_pairs(one, other)]
    return [(own, sums.count(own)) for own in sorted(set(sums))]


class TestLikeSums(unittest.TestCase):
    def check(self, one, other):
        before = (list(one), list(other))
        told = like_sums(one, other)
        self.assertIs(type(told), list)
        for like in told:
            check_whole_tuple(self, like, 2)
        likes = all_likes(one, other)
        self.assertEqual(told, likes, before)
        most = most_sum(one, other)
        if likes:
            check_whole_tuple(self, most, 2)
            self.assertEqual(most, min(likes, key=lambda like: (-like[1], like[0])), before)
        else:
            self.assertIsNone(most)
        self.assertEqual((one, other), before)

    def test_told_sums(self):
        self.assertEqual(like_sums([1, 2], [10, 11, 20]), [(11, 1), (12, 2), (13, 1), (21, 1), (22, 1)])
        self.assertEqual(like_sums([-2, -2, 5], [0, 0]), [(-2, 4), (5, 2)])
        self.assertEqual(most_sum([1, 2], [10, 11, 20]), (12, 2))
        self.assertEqual(most_sum([-2, -2, 5], [0, 0]), (-2, 4))

    def test_of_several_the_least(self):
        self.assertEqual(most_sum([1, 5, 9], [0]), (1, 1))
        self.assertEqual(most_sum([0, 3, 3, 7, 7], [-10]), (-7, 2))
        self.assertEqual(most_sum([-5, -5, -3, -3], [2]), (-3, 2))
        # The one of the most pairs may lie behind ones of fewer.
        self.assertEqual(most_sum([0, 0, 1, 5, 5, 5], [0]), (5, 3))

    def test_no_pair(self):
        for one, other in NO_PAIRS:
            self.check(one, other)
            self.assertEqual(like_sums(one, other), [])
            self.assertIsNone(most_sum(one, other))

    def test_rows_of_one_number_and_of_like_numbers(self):
        self.assertEqual(like_sums([3], [-5]), [(-2, 1)])
        self.assertEqual(most_sum([3], [-5]), (-2, 1))
        self.assertEqual(like_sums([4] * 60, [-4] * 60), [(0, 3600)])
        self.assertEqual(most_sum([4] * 60, [-4] * 60), (0, 3600))

    def test_every_two_small_rows(self):
        for one in small_rows(3):
            for other in small_rows(3):
                self.check(one, other)

    def test_numbers_below_nought_and_far_ones(self):
        self.check([-9, -7, -7, -1], [-20, -6, -6, -2])
        self.check([-10 ** 15, -10 ** 15 + 1, 0, 10 ** 15], [-10 ** 15, -1, 10 ** 15 - 1, 10 ** 15])

    def test_drawn_rows(self):
        chance = random.Random(27)
        for many, more in ((1, 20), (20, 1), (15, 15), (60, 60)):
            for spread in (1, 5, 40):
                self.check(drawn_row(chance, many, spread), drawn_row(chance, more, spread))
        self.check(drawn_row(chance, 20, 10 ** 15), drawn_row(chance, 20, 10 ** 15))

    def test_one_list_handed_in_twice(self):
        row = [-3, 0, 0, 2, 7]
        self.check(row, row)

    def test_the_list_told_is_the_askers_own(self):
        one, other = [1, 2], [3]
        like_sums(one, other).clear()
        self.assertEqual(like_sums(one, other), [(4, 1), (5, 1)])
        told = like_sums(one, other)
        one.append(9)
        self.assertEqual(told, [(4, 1), (5, 1)])
        self.assertEqual(like_sums(one, other), [(4, 1), (5, 1), (12, 1)])
        self.assertEqual(most_sum([9, 9] + one[2:], other), (12, 3))

    def test_the_counts_are_those_of_the_order(self):
        one, other = [-4, -4, 0, 3, 9], [-8, -1, -1, 2, 6, 6]
        place = 0
        for own, many in like_sums(one, other):
            self.assertEqual((sums_below(one, other, own), sums_to(one, other, own)), (place, place + many))
            self.assertEqual(sum_at(one, other, place)[0], own)
            place += many
        self.assertEqual(place, 30)
        self.assertIn(most_sum(one, other), like_sums(one, other))


class TestNearest(unittest.TestCase):
    def check(self, one, other, numbers=None):
        before = (list(one), list(other))
        pairs = all_pairs(one, other)
        if numbers is None:
            near = {pair[0] + step for pair in pairs for step in (-2, -1, 0, 1, 2)}
            between = {(pair[0] + behind[0]) // 2 + step for pair, behind in zip(pairs, pairs[1:]) for step in (0, 1)}
            numbers = sorted(near | between | {0, -10 ** 15, 10 ** 15, -FAR, FAR})
        for number in numbers:
            told = nearest(one, other, number)
            check_whole_tuple(self, told, 3)
            # Of like ones min tells the first, and the pairs stand in their order.
            self.assertEqual(told, min(pairs, key=lambda pair: abs(pair[0] - number)), (before, number))
        self.assertEqual((one, other), before)

    def test_told_pairs(self):
        one, other = [1, 2], [10, 11, 20]
        self.assertEqual(nearest(one, other, 21), (21, 0, 2))
        self.assertEqual(nearest(one, other, 18), (21, 0, 2))
        self.assertEqual(nearest(one, other, 16), (13, 1, 1))
        self.assertEqual(nearest(one, other, -FAR), (11, 0, 0))
        self.assertEqual(nearest(one, other, FAR), (22, 1, 2))

    def test_as_near_from_either_side_the_lower_sum(self):
        self.assertEqual(nearest([1, 2], [10, 11, 20], 17), (13, 1, 1))
        self.assertEqual(nearest([-5, 5], [0], 0), (-5, 0, 0))
        # Though the pair of the higher sum has the earlier place in the first row.
        self.assertEqual(nearest([0, 1], [-4, 2], 0), (2, 0, 1))
        self.assertEqual(nearest([0, 2], [-4, 2], 0), (-2, 1, 0))

    def test_of_like_sums_the_first_pair(self):
        self.assertEqual(nearest([1, 2, 2], [11, 11, 12], 13), (13, 0, 2))
        self.assertEqual(nearest([4] * 5, [2] * 7, 6), (6, 0, 0))
        self.assertEqual(nearest([4] * 5, [2] * 7, 0), (6, 0, 0))
        self.assertEqual(nearest([4] * 5, [2] * 7, 100), (6, 0, 0))
        self.assertEqual(nearest([0], [3, 3, 3, 9], 5), (3, 0, 0))
        self.assertEqual(nearest([3, 3, 3, 9], [0], 5), (3, 0, 0))

    def test_no_pair(self):
        for one, other in NO_PAIRS:
            for number in (-FAR, -1, 0, 1, FAR):
                self.assertIsNone(nearest(one, other, number))

    def test_one_pair(self):
        self.check([3], [-5], (-FAR, -3, -2, -1, 0, FAR))

    def test_every_two_small_rows(self):
        for one in small_rows(3):
            for other in small_rows(3):
                if one and other:
                    self.check(one, other, range(-6, 7))

    def test_numbers_below_nought_and_far_ones(self):
        self.check([-9, -7, -7, -1], [-20, -6, -6, -2])
        self.check([-10 ** 15, -10 ** 15 + 1, 0, 10 ** 15], [-10 ** 15, -1, 10 ** 15 - 1, 10 ** 15])

    def test_drawn_rows(self):
        chance = random.Random(28)
        for many, more in ((1, 20), (20, 1), (9, 11)):
            for spread in (2, 30, 10 ** 15):
                self.check(drawn_row(chance, many, spread), drawn_row(chance, more, spread))

    def test_one_list_handed_in_twice(self):
        row = [-3, 0, 0, 2, 7]
        self.check(row, row)

    def test_rows_of_three_hundred_in_a_time_that_nobody_notices(self):
        chance = random.Random(29)
        for spread in (5, 1000, 10 ** 15):
            one, other = drawn_row(chance, 300, spread), drawn_row(chance, 300, spread)
            numbers = [chance.randint(-2 * spread, 2 * spread) for _ in range(12)] + [-FAR, FAR]
            begin = time.process_time()
            for number in numbers:
                nearest(one, other, number)
            self.assertLess(time.process_time() - begin, 0.03 * len(numbers))
            self.check(one, other, numbers)

    def test_behind_a_change_the_rows_are_gone_through_anew(self):
        one, other = [1, 2], [10]
        self.assertEqual(nearest(one, other, 0), (11, 0, 0))
        other.insert(0, -3)
        one.append(4)
        self.assertEqual(nearest(one, other, 0), (-1, 1, 0))

    def test_a_sum_that_is_there_is_told_at_its_first_place_of_the_order(self):
        one, other = [-4, -4, 0, 3, 9], [-8, -1, -1, 2, 6, 6]
        for own, _ in like_sums(one, other):
            self.assertEqual(nearest(one, other, own), sum_at(one, other, sums_below(one, other, own)))


if __name__ == "__main__":
    unittest.main()
