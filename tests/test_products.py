"""The products of two rows [1, 2, 15]."""

import random
import time
import unittest

from sumplace.differences import differences_below
from sumplace.errors import NoPlace
from sumplace.products import product_at, products_below
from sumplace.rows import many_below
from tests.helpers import FAR, check_whole_tuple, drawn_row, no_places, no_wholes, refuses, small_rows


def all_products(one, other):
    """All pairs (product, place of one, place of other), in their order."""
    return sorted((first * second, i, j) for i, first in enumerate(one) for j, second in enumerate(other))


def around(pairs):
    """Every unlike product of the pairs, one less, one more, and numbers far off."""
    near = {pair[0] + step for pair in pairs for step in (-1, 0, 1)}
    return sorted(near | {0, -1, 1, -10 ** 15, 10 ** 15, -10 ** 30, 10 ** 30, -FAR, FAR})


class TestProducts(unittest.TestCase):
    def check(self, one, other, numbers=None, places=None):
        """The counts below the numbers and what stands at the places, or all of them."""
        before = (list(one), list(other))
        pairs = all_products(one, other)
        for number in around(pairs) if numbers is None else numbers:
            told = products_below(one, other, number)
            self.assertIs(type(told), int)
            self.assertEqual(told, sum(1 for pair in pairs if pair[0] < number), (before, number))
        for place in range(len(pairs)) if places is None else places:
            told = product_at(one, other, place)
            check_whole_tuple(self, told, 3)
            self.assertEqual(told, pairs[place], (before, place))
        self.assertEqual((one, other), before)

    def test_told_numbers(self):
        # The products: -6, -4, -2, 3, 6, 9 (of -2 and 3 with 1, 2, 3).
        one, other = [-2, 3], [1, 2, 3]
        told = [products_below(one, other, n) for n in (-6, -5, -3, 0, 3, 4, 9, 10)]
        self.assertEqual(told, [0, 1, 2, 3, 3, 4, 5, 6])
        told = [product_at(one, other, place) for place in range(6)]
        self.assertEqual(told, [(-6, 0, 2), (-4, 0, 1), (-2, 0, 0), (3, 1, 0), (6, 1, 1), (9, 1, 2)])

    def test_two_numbers_below_nought(self):
        told = [product_at([-3, -2], [-7, -5], place) for place in range(4)]
        self.assertEqual(told, [(10, 1, 1), (14, 1, 0), (15, 0, 1), (21, 0, 0)])
        self.assertEqual([products_below([-3, -2], [-7, -5], n) for n in (10, 11, 15, 16, 21, 22)], [0, 1, 2, 3, 3, 4])

    def test_noughts(self):
        self.assertEqual((products_below([0], [-5, 0, 7], 0), products_below([0], [-5, 0, 7], 1)), (0, 3))
        self.assertEqual((products_below([-5, 0, 7], [0], 0), products_below([-5, 0, 7], [0], 1)), (0, 3))
        told = [product_at([-1, 0, 2], [0, 0], place) for place in range(6)]
        self.assertEqual(told, [(0, first, second) for first in range(3) for second in range(2)])
        told = [product_at([-1, 0, 2], [-4, 0], place) for place in range(6)]
        self.assertEqual(told, [(-8, 2, 0), (0, 0, 1), (0, 1, 0), (0, 1, 1), (0, 2, 1), (4, 0, 0)])

    def test_rows_of_none(self):
        for one, other in (([], []), ([], [-1, 2]), ([-1, 2], [])):
            for number in (-FAR, -1, 0, 1, FAR):
                self.assertEqual(products_below(one, other, number), 0)

    def test_rows_of_one_number(self):
        for number in (-3, -1, 0, 1, 3):
            self.check([number], [-5])
            self.check([number], [-5, -1, -1, 0, 4])
            self.check([-5, -1, -1, 0, 4], [number])

    def test_every_two_small_rows(self):
        for one in small_rows(3):
            for other in small_rows(3):
                self.check(one, other, range(-5, 6))

    def test_like_products_by_the_first_rows_place_then_by_the_seconds(self):
        # Below 0 the places of the second row rise among like products, though its numbers are met from behind.
        told = [product_at([-4] * 3, [-2] * 4, place) for place in range(12)]
        self.assertEqual(told, [(8, first, second) for first in range(3) for second in range(4)])
        self.check([1, 2, 3, 4, 6, 12], [1, 2, 3, 4, 6, 12])
        self.check([-12, -6, -4, -3, -2, -1, 1, 2, 3, 4], [-12, -6, -4, -3, -2, -1, 1, 2, 3, 4])
        self.check([-2, -2, -1, -1, 0, 0, 1, 1, 2, 2], [-2, -2, -1, -1, 0, 0, 1, 1, 2, 2])
        self.check([1] * 6 + [2] * 6, [-4] * 4 + [-2] * 8)

    def test_numbers_that_divide_no_number_between(self):
        self.check([-7, -5, 3, 11], [-13, -4, 6, 9], range(-150, 151))

    def test_far_numbers(self):
        far = 10 ** 15
        self.check([-far, -far + 1, -1, 0, 1, far - 1, far], [-far, -2, -1, 0, 1, far - 1, far])
        self.assertEqual(product_at([-far, far], [-far, far], 0), (-10 ** 30, 0, 1))
        self.assertEqual(product_at([-far, far], [-far, far], 3), (10 ** 30, 1, 1))

    def test_one_list_handed_in_twice(self):
        row = [-3, 0, 0, 2, 7]
        self.check(row, row)

    def test_rows_of_unlike_lengths(self):
        chance = random.Random(20)
        for many, more in ((1, 40), (40, 1), (7, 30), (30, 7), (17, 18)):
            for spread in (2, 30, 10 ** 15):
                one, other = drawn_row(chance, many, spread), drawn_row(chance, more, spread)
                numbers = around(all_products(one, other))
                self.check(one, other, numbers[:: max(1, len(numbers) // 60)])

    def test_rows_of_one_sign(self):
        chance = random.Random(21)
        for spread in (3, 50, 10 ** 15):
            high, low = [sorted(abs(number) + 1 for number in drawn_row(chance, 12, spread)) for _ in range(2)]
            low = [-number for number in low[::-1]]
            for one in (high, low):
                for other in (high, low):
                    self.check(one, other)

    def test_rows_of_three_hundred_in_a_time_that_nobody_notices(self):
        chance = random.Random(22)
        for spread in (0, 5, 1000, 10 ** 15):
            one, other = drawn_row(chance, 300, spread), drawn_row(chance, 300, spread)
            pairs = all_products(one, other)
            places = [0, 1, 45000, 89998, 89999] + [chance.randrange(90000) for _ in range(20)]
            begin = time.process_time()
            told = [product_at(one, other, place) for place in places]
            counts = [products_below(one, other, pairs[place][0]) for place in places]
            self.assertLess(time.process_time() - begin, 0.1 * len(places))
            self.assertEqual(told, [pairs[place] for place in places])
            products = [pair[0] for pair in pairs]
            self.assertEqual(counts, [many_below(products, pairs[place][0]) for place in places])

    def test_behind_a_change_the_rows_are_ordered_anew(self):
        one, other = [-1, 2], [10]
        self.check(one, other)
        other.insert(0, -3)
        one.append(2)
        self.check(one, other)


class TestNoPlace(unittest.TestCase):
    def test_what_is_no_place(self):
        one, other = [-1, 2, 2], [-4, 0]
        refuses(self, lambda thing: product_at(one, other, thing), no_places(6))
        self.assertEqual((one, other), ([-1, 2, 2], [-4, 0]))
        self.assertEqual([product_at(one, other, place) for place in range(6)], all_products(one, other))

    def test_the_count_of_pairs_is_the_first_that_is_none(self):
        for one in small_rows(2):
            for other in small_rows(2):
                refuses(self, lambda thing: product_at(one, other, thing), (-1, len(one) * len(other)))

    def test_no_place_where_a_row_is_of_none(self):
        for one, other in (([], []), ([], [1, 2]), ([1, 2], [])):
            refuses(self, lambda thing: product_at(one, other, thing), list(range(-3, 5)))
        refuses(self, lambda thing: product_at([1, 2], [], thing), no_wholes())

    def test_what_is_refused_is_not_changed(self):
        for thing in ([], [2, 1], [[0], [1]], {1: [2]}, (0, [1])):
            before = repr(thing)
            with self.assertRaises(NoPlace):
                product_at([1, 2], [3, 4], thing)
            self.assertEqual(repr(thing), before)


class TestTheWhole(unittest.TestCase):
    """The counts and the so-manieth tell one order [2]."""

    def test_as_many_are_below_what_stands_at_a_place_as_the_order_tells(self):
        one, other = [-4, -4, 0, 3, 9], [-8, -1, -1, 2, 6, 6]
        for place in range(30):
            told, first, second = product_at(one, other, place)
            self.assertEqual(told, one[first] * other[second])
            self.assertLessEqual(products_below(one, other, told), place)
            self.assertGreater(products_below(one, other, told + 1), place)

    def test_beside_a_row_of_one_the_products_are_the_row(self):
        row = [-8, -1, -1, 2, 6, 6]
        for place, number in enumerate(row):
            self.assertEqual(product_at([1], row, place), (number, 0, place))
            self.assertEqual(product_at(row, [1], place), (number, place, 0))
            self.assertEqual(products_below([1], row, number), many_below(row, number))
            # Times -1 they are what a row of nought leaves less them.
            self.assertEqual(products_below(row, [-1], number), differences_below([0], row, number))


if __name__ == "__main__":
    unittest.main()
