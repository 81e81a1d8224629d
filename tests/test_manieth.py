"""The so-manieth pair of the order of all sums, and the middle one [1, 2, 6, 7, 8]."""

import random
import time
import unittest

from sumplace.below import sums_below, sums_to
from sumplace.errors import NoPlace
from sumplace.manieth import middle, sum_at
from sumplace.rows import many_below, many_to
from tests.helpers import all_pairs, check_whole_tuple, drawn_row, no_places, refuses, small_rows


class TestSumAt(unittest.TestCase):
    def check(self, one, other, places=None):
        """Each of the places, or every one, against all pairs sorted."""
        one_before, other_before = list(one), list(other)
        pairs = all_pairs(one, other)
        for place in range(len(pairs)) if places is None else places:
            self.assertEqual(sum_at(one, other, place), pairs[place], (one_before, other_before, place))
        self.assertEqual(one, one_before)
        self.assertEqual(other, other_before)

    def test_told_pairs(self):
        told = [sum_at([1, 2], [10, 11, 20], place) for place in range(6)]
        self.assertEqual(told, [(11, 0, 0), (12, 0, 1), (12, 1, 0), (13, 1, 1), (21, 0, 2), (22, 1, 2)])

    def test_told_is_a_tuple_of_three_whole_numbers(self):
        for one, other in (([1, 2], [10, 11, 20]), ([3], [4]), ([-10 ** 15] * 3, [10 ** 15] * 2)):
            for place in range(len(one) * len(other)):
                check_whole_tuple(self, sum_at(one, other, place), 3)

    def test_every_place_of_small_rows(self):
        for one in small_rows(3):
            for other in small_rows(3):
                self.check(one, other)

    def test_like_sums_by_the_first_rows_place_then_by_the_seconds(self):
        self.check([1, 2, 3, 4], [1, 2, 3, 4])
        self.check([0, 0, 1, 1], [-1, -1, 0, 0])
        told = [sum_at([0, 0, 1], [4, 5, 5], place) for place in range(9)]
        self.assertEqual(
            told,
            [(4, 0, 0), (4, 1, 0), (5, 0, 1), (5, 0, 2), (5, 1, 1), (5, 1, 2), (5, 2, 0), (6, 2, 1), (6, 2, 2)],
        )

    def test_rows_of_like_numbers(self):
        told = [sum_at([4] * 5, [-2] * 7, place) for place in range(35)]
        self.assertEqual(told, [(2, first, second) for first in range(5) for second in range(7)])
        self.check([1] * 6 + [2] * 6, [0] * 4 + [1] * 8)
        self.check([7] * 9, [-3, -3, 0, 5, 5, 5])
        self.check([-3, -3, 0, 5, 5, 5], [7] * 9)

    def test_rows_of_one_number(self):
        self.assertEqual(sum_at([3], [-5], 0), (-2, 0, 0))
        self.check([3], [-5, -1, -1, 4])
        self.check([-5, -1, -1, 4], [3])

    def test_numbers_below_nought_and_far_ones(self):
        self.check([-9, -7, -7, -1], [-20, -6, -6, -2])
        self.check([-10 ** 15, -10 ** 15 + 1, 0, 10 ** 15], [-10 ** 15, -1, 10 ** 15 - 1, 10 ** 15])

    def test_one_list_handed_in_twice(self):
        row = [-3, 0, 0, 2, 7]
        self.check(row, row)

    def test_rows_of_unlike_lengths(self):
        chance = random.Random(4)
        for many, more in ((1, 60), (60, 1), (7, 40), (40, 7), (23, 24)):
            for spread in (2, 30, 10 ** 15):
                self.check(drawn_row(chance, many, spread), drawn_row(chance, more, spread))

    def test_rows_of_three_hundred_in_a_time_that_nobody_notices(self):
        chance = random.Random(6)
        for spread in (0, 5, 1000, 10 ** 15):
            one, other = drawn_row(chance, 300, spread), drawn_row(chance, 300, spread)
            pairs = all_pairs(one, other)
            places = [0, 1, 2, 44999, 45000, 45001, 89998, 89999]
            places += [chance.randrange(90000) for _ in range(60)]
            changes = [at for at in range(1, 90000) if pairs[at - 1][0] != pairs[at][0]]
            for at in changes[:3] + changes[len(changes) // 2:][:3] + changes[-3:]:
                places += [at - 1, at]
            begin = time.process_time()
            told = [sum_at(one, other, place) for place in places]
            # One of them takes some thousandths of a second; to sort all pairs anew takes far longer.
            self.assertLess(time.process_time() - begin, 0.03 * len(places))
            self.assertEqual(told, [pairs[place] for place in places])

    def test_behind_a_change_the_rows_are_ordered_anew(self):
        one, other = [1, 2], [10]
        self.assertEqual(sum_at(one, other, 1), (12, 1, 0))
        other.insert(0, 0)
        one.append(2)
        self.check(one, other)


class TestNoPlace(unittest.TestCase):
    def test_what_is_no_such_place(self):
        one, other = [1, 2, 2], [-4, 0]
        refuses(self, lambda thing: sum_at(one, other, thing), no_places(6))
        self.assertEqual((one, other), ([1, 2, 2], [-4, 0]))

    def test_the_count_of_pairs_is_the_first_that_is_none(self):
        for one in small_rows(2):
            for other in small_rows(2):
                refuses(self, lambda thing: sum_at(one, other, thing), (-1, len(one) * len(other)))

    def test_every_number_where_a_row_is_of_none(self):
        for one, other in (([], []), ([], [1, 2]), ([1, 2], [])):
            refuses(self, lambda thing: sum_at(one, other, thing), list(range(-3, 5)))
            refuses(self, lambda thing: sum_at(one, other, thing), no_places(0))

    def test_true_and_false_are_no_places_where_0_and_1_are(self):
        for thing in (False, True):
            with self.assertRaises(NoPlace):
                sum_at([1, 2], [3, 4], thing)

    def test_what_is_refused_is_not_changed(self):
        for thing in ([], [2, 1], [[0], [1]], {1: [2]}, (0, [1])):
            before = repr(thing)
            with self.assertRaises(NoPlace):
                sum_at([1, 2], [3, 4], thing)
            self.assertEqual(repr(thing), before)

    def test_places_are_told_behind_a_refusal_as_ahead_of_it(self):
        one, other = [1, 2, 2], [-4, 0]
        pairs = all_pairs(one, other)
        for thing in (6, -1, True, "0", None, [0], (0,), {0: 0}):
            with self.assertRaises(NoPlace):
                sum_at(one, other, thing)
            self.assertEqual([sum_at(one, other, place) for place in range(6)], pairs)


class TestMiddle(unittest.TestCase):
    def test_an_even_count_of_pairs(self):
        self.assertEqual(middle([1, 5], [10, 20]), (21, 0, 1))
        self.assertEqual(middle([1, 2], [10, 11, 20]), (13, 1, 1))
        self.assertEqual(middle([3], [1, 2]), (5, 0, 1))

    def test_an_odd_count_of_pairs(self):
        self.assertEqual(middle([3], [1, 2, 9]), (5, 0, 1))
        self.assertEqual(middle([0, 10, 20], [1, 2, 3]), (12, 1, 1))

    def test_one_pair(self):
        self.assertEqual(middle([3], [-5]), (-2, 0, 0))

    def test_like_numbers(self):
        self.assertEqual(middle([2] * 3, [5] * 3), (7, 1, 1))
        self.assertEqual(middle([2] * 4, [5] * 2), (7, 2, 0))

    def test_every_two_small_rows(self):
        for one in small_rows(3):
            for other in small_rows(3):
                before = (list(one), list(other))
                pairs = all_pairs(one, other)
                if pairs:
                    told = middle(one, other)
                    self.assertEqual(told, pairs[len(pairs) // 2])
                    check_whole_tuple(self, told, 3)
                self.assertEqual((one, other), before)

    def test_no_pair(self):
        rows = (([], []), ([], [1, 2]), ([1, 2], []))
        refuses(self, lambda two: middle(two[0], two[1]), rows)
        self.assertEqual(rows, (([], []), ([], [1, 2]), ([1, 2], [])))

    def test_rows_of_three_hundred(self):
        chance = random.Random(7)
        one, other = drawn_row(chance, 300, 10 ** 15), drawn_row(chance, 299, 10 ** 15)
        self.assertEqual(middle(one, other), all_pairs(one, other)[44850])


class TestTheWhole(unittest.TestCase):
    """The counts and the so-manieth tell one order [2]."""

    def test_the_place_lies_between_the_counts_of_its_sum(self):
        one, other = [-4, -4, 0, 3, 9], [-8, -1, -1, 2, 6, 6]
        for place in range(30):
            total, first, second = sum_at(one, other, place)
            self.assertEqual(total, one[first] + other[second])
            self.assertLessEqual(sums_below(one, other, total), place)
            self.assertGreater(sums_to(one, other, total), place)

    def test_beside_a_row_of_nought_the_order_is_the_row(self):
        row = [-8, -1, -1, 2, 6, 6]
        for place, number in enumerate(row):
            self.assertEqual(sum_at([0], row, place), (number, 0, place))
            self.assertEqual(sum_at(row, [0], place), (number, place, 0))
            self.assertIn(place, range(many_below(row, number), many_to(row, number)))


if __name__ == "__main__":
    unittest.main()
