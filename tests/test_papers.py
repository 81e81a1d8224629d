"""The places of pairs and of sums, and papers [1, 2, 22, 23, 24]."""

import random
import time
import unittest

from sumplace.below import sums_below, sums_to
from sumplace.errors import NoPlace
from sumplace.papers import by_paper, paper_of, place_of, places_of
from tests.helpers import FAR, all_pairs, check_whole_tuple, deep_things, drawn_row, no_places, no_wholes, refuses
from tests.helpers import small_rows

NO_PAIRS = (([], []), ([], [1, 2]), ([1, 2], []))


def around(one, other):
    """Every unlike sum of the rows, one less, one more, and numbers far off."""
    near = {pair[0] + step for pair in all_pairs(one, other) for step in (-1, 0, 1)}
    return sorted(near | {0, -10 ** 15, 10 ** 15, -FAR, FAR})


class TestPlaceOf(unittest.TestCase):
    def check(self, one, other, places=None):
        before = (list(one), list(other))
        pairs = all_pairs(one, other)
        for place in range(len(pairs)) if places is None else places:
            told = place_of(one, other, pairs[place][1:])
            self.assertIs(type(told), int)
            self.assertEqual(told, place, (before, pairs[place]))
        self.assertEqual((one, other), before)

    def test_told_places(self):
        one, other = [1, 2], [10, 11, 20]
        pairs = [(0, 0), (0, 1), (1, 0), (1, 1), (0, 2), (1, 2)]
        self.assertEqual([place_of(one, other, pair) for pair in pairs], [0, 1, 2, 3, 4, 5])

    def test_every_two_small_rows(self):
        for one in small_rows(3):
            for other in small_rows(3):
                self.check(one, other)

    def test_like_numbers_and_like_sums(self):
        self.assertEqual(place_of([4] * 5, [-2] * 7, (3, 2)), 23)
        self.check([4] * 5, [-2] * 7)
        self.check([1, 2, 3, 4], [1, 2, 3, 4])
        self.check([0, 0, 1, 1, 1, 5], [-1, -1, 0, 0, 0])
        self.check([1] * 6 + [2] * 6, [0] * 4 + [1] * 8)

    def test_rows_of_one_number(self):
        self.check([3], [-5])
        self.check([3], [-5, -1, -1, 4])
        self.check([-5, -1, -1, 4], [3])

    def test_numbers_below_nought_and_far_ones(self):
        self.check([-9, -7, -7, -1], [-20, -6, -6, -2])
        self.check([-10 ** 15, -10 ** 15 + 1, 0, 10 ** 15], [-10 ** 15, -1, 10 ** 15 - 1, 10 ** 15])

    def test_one_list_handed_in_twice(self):
        row = [-3, 0, 0, 2, 7]
        self.check(row, row)

    def test_rows_of_three_hundred_in_a_time_that_nobody_notices(self):
        chance = random.Random(30)
        for spread in (0, 5, 1000, 10 ** 15):
            one, other = drawn_row(chance, 300, spread), drawn_row(chance, 300, spread)
            places = [0, 1, 45000, 89998, 89999] + [chance.randrange(90000) for _ in range(30)]
            begin = time.process_time()
            for place in places:
                place_of(one, other, (place // 300, place % 300))
            self.assertLess(time.process_time() - begin, 0.03 * len(places))
            self.check(one, other, places)

    def test_what_is_no_pair_of_places(self):
        one, other = [1, 2, 2], [-4, 0]
        refuses(self, lambda thing: place_of(one, other, (thing, 0)), no_places(3))
        refuses(self, lambda thing: place_of(one, other, (0, thing)), no_places(2))
        refuses(self, lambda thing: place_of(one, other, (thing, thing)), no_places(3))
        refuses(self, lambda thing: place_of(one, other, (thing,)), no_wholes())
        self.assertEqual((one, other), ([1, 2, 2], [-4, 0]))
        self.check(one, other)

    def test_what_is_no_tuple_of_two(self):
        one, other = [1, 2, 2], [-4, 0]
        things = [0, 1, 5, -1, (), (0,), (1,), (0, 0, 0), (0, 1, 2), (1, 0, None)]
        things += [((0, 1),), ((0, 1), (0, 1)), ((0, 1), 0)]
        things += [[0, 0], [0, 1], [[0, 1]], {0: 0, 1: 1}, "01", b"01", range(2), {0, 1}, (0, 0) * 1000]
        refuses(self, lambda thing: place_of(one, other, thing), things)
        refuses(self, lambda thing: place_of(one, other, thing), no_wholes())
        refuses(self, lambda thing: place_of(one, other, [0, thing]), deep_things())

    def test_places_of_the_other_way_about(self):
        # (0, 2) is a pair of these, (2, 0) is none; of the rows changed about it is the other way.
        self.assertEqual(place_of([1, 2], [10, 11, 20], (0, 2)), 4)
        pairs = [(2, 0), (2, 1), (0, 3), (1, 3), (-1, 0), (0, -1)]
        refuses(self, lambda pair: place_of([1, 2], [10, 11, 20], pair), pairs)
        self.assertEqual(place_of([10, 11, 20], [1, 2], (2, 0)), 4)

    def test_no_pair_where_a_row_is_of_none(self):
        for one, other in NO_PAIRS:
            refuses(self, lambda pair: place_of(one, other, pair), [(0, 0), (0, 1), (1, 0), (-1, -1), (), None])

    def test_what_is_refused_is_not_changed(self):
        for thing in ([], [0, 1], ([0], [1]), {0: 1}, ([],), (0, [1])):
            before = repr(thing)
            with self.assertRaises(NoPlace):
                place_of([1, 2], [3, 4], thing)
            self.assertEqual(repr(thing), before)


class TestPlacesOf(unittest.TestCase):
    def check(self, one, other, numbers=None):
        before = (list(one), list(other))
        sums = [pair[0] for pair in all_pairs(one, other)]
        for number in around(one, other) if numbers is None else numbers:
            told = places_of(one, other, number)
            check_whole_tuple(self, told, 2)
            below = sum(1 for own in sums if own < number)
            self.assertEqual(told, (below, below + sums.count(number)), (before, number))
        self.assertEqual((one, other), before)

    def test_told_places(self):
        one, other = [1, 2], [10, 11, 20]
        told = [places_of(one, other, number) for number in (10, 11, 12, 13, 14, 21, 22, 23)]
        self.assertEqual(told, [(0, 0), (0, 1), (1, 3), (3, 4), (4, 4), (4, 5), (5, 6), (6, 6)])

    def test_rows_of_none_and_of_like_numbers(self):
        for one, other in NO_PAIRS:
            for number in (-FAR, -1, 0, 1, 3, FAR):
                self.assertEqual(places_of(one, other, number), (0, 0))
        self.assertEqual(places_of([4] * 5, [2] * 7, 6), (0, 35))

    def test_every_two_small_rows(self):
        for one in small_rows(3):
            for other in small_rows(3):
                self.check(one, other, range(-5, 6))

    def test_drawn_rows_and_far_numbers(self):
        chance = random.Random(31)
        for spread in (2, 30, 10 ** 15):
            self.check(drawn_row(chance, 7, spread), drawn_row(chance, 9, spread))
        self.check([-10 ** 15, 10 ** 15], [-10 ** 15, 10 ** 15])


class TestPaper(unittest.TestCase):
    def check(self, one, other, numbers=None):
        """The paper of each of the numbers, and how many pairs it shows."""
        before = (list(one), list(other))
        for number in around(one, other) if numbers is None else numbers:
            told = paper_of(one, other, number)
            self.assertIs(type(told), list)
            self.assertEqual([type(many) for many in told], [int] * len(one))
            should = [sum(1 for second in other if first + second < number) for first in one]
            self.assertEqual(told, should, (before, number))
            many = by_paper(one, other, number, told)
            self.assertIs(type(many), int)
            self.assertEqual(many, sum(should))
            self.assertEqual(told, should)
        self.assertEqual((one, other), before)

    def test_told_papers(self):
        one, other = [1, 2, 9], [10, 11, 20]
        self.assertEqual(paper_of(one, other, 13), [2, 1, 0])
        self.assertEqual(by_paper(one, other, 13, [2, 1, 0]), 3)
        self.assertEqual(paper_of(one, other, -FAR), [0, 0, 0])
        self.assertEqual(paper_of(one, other, FAR), [3, 3, 3])

    def test_a_place_for_each_of_the_first_row(self):
        self.assertEqual(paper_of([1, 2], [], 5), [0, 0])
        self.assertEqual(paper_of([], [1, 2], 5), [])
        self.assertEqual(paper_of([1], [0, 0, 0, 7], 5), [3])
        self.assertEqual(paper_of([0, 0, 0, 7], [1], 5), [1, 1, 1, 0])

    def test_rows_of_none(self):
        for one, other in NO_PAIRS:
            self.check(one, other, (-FAR, -1, 0, 1, FAR))
        self.assertEqual(by_paper([], [1, 2], 5, []), 0)
        self.assertEqual(by_paper([1, 2], [], 5, [0, 0]), 0)
        for one, other, thing in (([], [1], [0]), ([], [], [[]]), ([], [1], ()), ([1], [], []), ([1], [], [1])):
            self.assertIsNone(by_paper(one, other, 5, thing))

    def test_every_two_small_rows(self):
        for one in small_rows(3):
            for other in small_rows(3):
                self.check(one, other, range(-5, 6))

    def test_drawn_rows_and_far_numbers(self):
        chance = random.Random(32)
        for spread in (2, 30, 10 ** 15):
            self.check(drawn_row(chance, 7, spread), drawn_row(chance, 9, spread))
        self.check([-10 ** 15, 10 ** 15], [-10 ** 15, 10 ** 15])

    def test_every_list_of_counts_but_the_paper_is_none(self):
        one, other = [0, 1, 3], [-1, 1, 1]
        for number in range(-3, 7):
            paper = paper_of(one, other, number)
            for at in range(-1, 5 ** 3):
                thing = [at // 25 - 1, at // 5 % 5 - 1, at % 5 - 1]
                told = by_paper(one, other, number, thing)
                self.assertEqual(told, sum(paper) if thing == paper else None, (number, thing))

    def test_one_count_that_is_off(self):
        chance = random.Random(33)
        for spread in (2, 30, 10 ** 15):
            one, other = drawn_row(chance, 7, spread), drawn_row(chance, 9, spread)
            for number in around(one, other)[::5]:
                paper = paper_of(one, other, number)
                for at in range(7):
                    for off in (-10 ** 15, -9, -1, 1, 2, 10 ** 15):
                        thing = paper[:at] + [paper[at] + off] + paper[at + 1:]
                        self.assertIsNone(by_paper(one, other, number, thing))

    def test_the_same_sum_by_other_counts_is_none(self):
        # Both of 3 pairs, as the paper.
        one, other = [1, 2, 9], [10, 11, 20]
        self.assertIsNone(by_paper(one, other, 13, [3, 0, 0]))
        self.assertIsNone(by_paper(one, other, 13, [0, 1, 2]))

    def test_the_paper_of_another_number_or_of_the_rows_changed_about(self):
        one, other = [1, 2, 9], [10, 11, 20]
        self.assertIsNone(by_paper(one, other, 13, paper_of(one, other, 14)))
        self.assertIsNone(by_paper(one, other, 13, paper_of(one, other, 12)))
        self.assertIsNone(by_paper([1, 2], [10, 11, 20], 13, paper_of([10, 11, 20], [1, 2], 13)))

    def test_a_list_too_short_or_too_long(self):
        one, other = [1, 2, 9], [10, 11, 20]
        for thing in ([], [2], [2, 1], [2, 1, 0, 0], [0, 2, 1, 0], [2, 1, 0] * 2, [2, 1, 0, None]):
            self.assertIsNone(by_paper(one, other, 13, thing))

    def test_what_is_no_list(self):
        one, other = [1, 2, 9], [10, 11, 20]
        for thing in ((2, 1, 0), "210", b"\x02\x01\x00", {0: 2, 1: 1, 2: 0}, {2, 1, 0}, range(2, -1, -1), 3, 0):
            self.assertIsNone(by_paper(one, other, 13, thing))
        for thing in no_wholes():
            self.assertTrue(by_paper(one, other, 13, thing) is None)

    def test_what_is_no_whole_number_at_any_place(self):
        # The paper is [1, 1, 0]: True and False would stand for its numbers.
        one, other = [1, 2, 9], [10, 12, 20]
        self.assertEqual(by_paper(one, other, 13, [1, 1, 0]), 2)
        for thing in ([True, 1, 0], [1, True, 0], [1, 1, False], [True, True, False]):
            self.assertIsNone(by_paper(one, other, 13, thing))
        for at in range(3):
            for thing in no_wholes():
                paper = [1, 1, 0]
                paper[at] = thing
                self.assertTrue(by_paper(one, other, 13, paper) is None)

    def test_what_is_handed_in_is_not_changed(self):
        one, other = [1, 2, 9], [10, 11, 20]
        for thing in ([], [2, 1, 0], [2, 1, 1], [[2], [1], [0]], {1: [2]}, ([2, 1, 0],)):
            before = repr(thing)
            by_paper(one, other, 13, thing)
            self.assertEqual(repr(thing), before)
        self.assertEqual((one, other), ([1, 2, 9], [10, 11, 20]))

    def test_the_paper_told_is_the_askers_own(self):
        one, other = [1, 2, 9], [10, 11, 20]
        paper_of(one, other, 13).clear()
        told = paper_of(one, other, 13)
        one.insert(0, 0)
        other.pop()
        self.assertEqual(told, [2, 1, 0])
        self.assertEqual(paper_of(one, other, 13), [2, 2, 1, 0])
        self.assertIsNone(by_paper(one, other, 13, told))

    def test_long_rows_in_a_time_that_nobody_notices(self):
        chance = random.Random(34)
        for spread in (5, 10 ** 15):
            one, other = drawn_row(chance, 300, spread), drawn_row(chance, 300, spread)
            begin = time.process_time()
            for number in range(-10 * spread, 10 * spread, spread):
                paper = paper_of(one, other, number)
                self.assertEqual(by_paper(one, other, number, paper), sums_below(one, other, number))
                self.assertEqual(places_of(one, other, number), (sum(paper), sums_to(one, other, number)))
            self.assertLess(time.process_time() - begin, 1)


if __name__ == "__main__":
    unittest.main()
