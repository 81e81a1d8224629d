"""Rows behind glass, and the so-manieth sum by few looks [1, 2, 11, 12]."""

import random
import time
import unittest

from sumplace.errors import NoPlace
from sumplace.looks import Glass, sum_by_looks
from sumplace.manieth import sum_at
from tests.helpers import all_pairs, drawn_row, no_places, no_wholes, refuses, small_rows


class TestGlass(unittest.TestCase):
    def check_row(self, glass, row):
        """The glass tells just the row, and counts each look."""
        ahead = glass.looks()
        self.assertEqual(glass.many(), len(row))
        self.assertEqual(glass.looks(), ahead)
        for place, number in enumerate(row):
            told = glass.look(place)
            self.assertIs(type(told), int)
            self.assertEqual(told, number)
            self.assertEqual(glass.looks(), ahead + place + 1)

    def test_rows(self):
        for row in ([], [7], [-3, -3, 0, 5], [-10 ** 15, 10 ** 15], list(range(-150, 150))):
            before = list(row)
            glass = Glass(row)
            self.assertIs(type(glass.many()), int)
            self.assertIs(type(glass.looks()), int)
            self.assertEqual(glass.looks(), 0)
            self.check_row(glass, row)
            self.check_row(glass, row)
            self.assertEqual(row, before)

    def test_each_look_counts_also_one_at_the_same_place(self):
        glass = Glass([4, 6, 6])
        for looks in range(1, 8):
            self.assertEqual(glass.look(2), 6)
            self.assertEqual(glass.looks(), looks)
            self.assertEqual(glass.looks(), looks)

    def test_what_is_no_place_and_no_look_is_counted_for_it(self):
        row = [4, 6, 6]
        glass = Glass(row)
        refuses(self, glass.look, no_places(3))
        self.assertEqual(glass.looks(), 0)
        self.assertEqual(glass.look(0), 4)
        refuses(self, glass.look, no_places(3))
        self.assertEqual(glass.looks(), 1)
        self.assertEqual(row, [4, 6, 6])
        self.check_row(glass, row)

    def test_a_row_of_none_has_no_place(self):
        glass = Glass([])
        refuses(self, glass.look, [0, 1, -1])
        refuses(self, glass.look, no_wholes())
        self.assertEqual((glass.many(), glass.looks()), (0, 0))

    def test_the_list_changed_behind_the_making(self):
        row = [4, 6, 6]
        glass = Glass(row)
        row.append(9)
        row[0] = -1
        self.check_row(glass, [4, 6, 6])
        row.clear()
        self.check_row(glass, [4, 6, 6])
        refuses(self, glass.look, [3])
        self.assertEqual(row, [])

    def test_two_glasses_of_one_list_are_counted_apart(self):
        row = [4, 6, 6]
        one, other = Glass(row), Glass(row)
        one.look(0)
        one.look(2)
        self.assertEqual((one.looks(), other.looks()), (2, 0))
        other.look(1)
        self.assertEqual((one.looks(), other.looks()), (2, 1))


class TestSumByLooks(unittest.TestCase):
    def check(self, one, other, places, glasses=None):
        """What is told at each of the places, and how many looks are taken for it at most."""
        before = (list(one), list(other))
        pairs = all_pairs(one, other)
        for place in places:
            first, second = (Glass(one), Glass(other)) if glasses is None else glasses
            ahead = first.looks() + second.looks()
            told = sum_by_looks(first, second, place)
            looks = first.looks() + second.looks() - ahead
            self.assertIs(type(told), int)
            self.assertEqual(told, pairs[place][0], (before, place))
            self.assertLessEqual(looks, len(one) + len(other))
            self.assertLessEqual(looks, 2 * (place + 1))
        self.assertEqual((one, other), before)

    def test_told_sums(self):
        one, other = Glass([1, 2]), Glass([10, 11, 20])
        self.assertEqual([sum_by_looks(one, other, place) for place in range(6)], [11, 12, 12, 13, 21, 22])

    def test_every_place_of_small_rows(self):
        for one in small_rows(3):
            for other in small_rows(3):
                self.check(one, other, range(len(one) * len(other)))

    def test_one_glass_for_many_calls_counts_each_call_by_itself(self):
        one, other = [-4, -4, 0, 3], [-8, -1, -1, 2, 6]
        self.check(one, other, list(range(20)) + list(range(19, -1, -1)), (Glass(one), Glass(other)))

    def test_two_glasses_of_one_list(self):
        row = [-3, 0, 0, 2, 7]
        self.check(row, row, range(25))

    def test_rows_of_unlike_lengths(self):
        chance = random.Random(14)
        for many, more in ((1, 1), (1, 50), (50, 1), (3, 40), (40, 3), (12, 13)):
            for spread in (2, 10 ** 15):
                one, other = drawn_row(chance, many, spread), drawn_row(chance, more, spread)
                self.check(one, other, range(many * more))

    def test_glasses_at_which_looks_were_taken_ahead(self):
        one, other = [-4, -4, 0, 3], [-8, -1, -1, 2, 6]
        first, second = Glass(one), Glass(other)
        for place in (0, 1, 2, 3, 3, 3):
            first.look(place)
            second.look(place)
        second.look(4)
        self.check(one, other, range(20), (first, second))

    def test_rows_of_three_hundred_at_drawn_places_in_a_time_that_nobody_notices(self):
        chance = random.Random(15)
        for spread in (3, 1000, 10 ** 15):
            one, other = drawn_row(chance, 300, spread), drawn_row(chance, 300, spread)
            places = [0, 1, 2, 148, 149, 150, 298, 299, 300, 301, 45000, 89998, 89999]
            places += [chance.randrange(90000) for _ in range(20)] + [chance.randrange(400) for _ in range(20)]
            begin = time.process_time()
            for place in places:
                sum_by_looks(Glass(one), Glass(other), place)
            self.assertLess(time.process_time() - begin, 0.03 * len(places))
            self.check(one, other, places)
            for place in places[::5]:
                self.assertEqual(sum_by_looks(Glass(one), Glass(other), place), sum_at(one, other, place)[0])

    def test_what_is_no_place_is_refused_without_a_look(self):
        one, other = Glass([1, 2, 2]), Glass([-4, 0])
        refuses(self, lambda thing: sum_by_looks(one, other, thing), no_places(6))
        self.assertEqual((one.looks(), other.looks()), (0, 0))
        one.look(1)
        refuses(self, lambda thing: sum_by_looks(one, other, thing), (6, -1, True, "0", None))
        self.assertEqual((one.looks(), other.looks()), (1, 0))

    def test_every_number_is_refused_where_a_row_is_of_none(self):
        for one, other in ((Glass([]), Glass([])), (Glass([]), Glass([1, 2])), (Glass([1, 2]), Glass([]))):
            refuses(self, lambda thing: sum_by_looks(one, other, thing), list(range(-3, 5)))
            self.assertEqual((one.looks(), other.looks()), (0, 0))

    def test_both_glasses_tell_their_numbers_behind_it_as_ahead(self):
        one, other = [-4, -4, 0, 3], [-8, -1, -1, 2, 6]
        first, second = Glass(one), Glass(other)
        for thing in (0, 7, 19, 20, None, [0]):
            try:
                sum_by_looks(first, second, thing)
            except NoPlace:
                pass
            self.assertEqual((first.many(), second.many()), (4, 5))
            self.assertEqual([first.look(place) for place in range(4)], one)
            self.assertEqual([second.look(place) for place in range(5)], other)

    def test_the_lists_changed_behind_the_making_of_the_glasses(self):
        one, other = [1, 2], [10, 11, 20]
        first, second = Glass(one), Glass(other)
        one[0] = -50
        other.clear()
        self.assertEqual([sum_by_looks(first, second, place) for place in range(6)], [11, 12, 12, 13, 21, 22])


if __name__ == "__main__":
    unittest.main()
