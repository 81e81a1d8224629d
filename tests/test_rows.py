"""Rows: what one is, two joined, how many numbers below and at most a number [1, 3, 4]."""

import random
import unittest
from itertools import product

from sumplace.rows import is_row, joined, many_below, many_to
from tests.helpers import FAR, deep_things, nested, small_rows


class TestIsRow(unittest.TestCase):
    def test_rows(self):
        for row in (
            [],
            [0],
            [-7],
            [1, 2, 3],
            [5, 5],
            [-3, -3, 0, 0, 0, 4, 4],
            [-1, 0, 1],
            [-10 ** 15, 10 ** 15],
            [-FAR, FAR],
        ):
            with self.subTest(row=row):
                self.assertIs(is_row(row), True)

    def test_long_rows(self):
        self.assertIs(is_row(list(range(-50000, 50000))), True)
        self.assertIs(is_row([7] * 100000), True)

    def test_one_number_less_than_the_one_ahead(self):
        for many in (2, 3, 300, 20000):
            for at in sorted({1, 2, many // 2, many - 1}):
                if at < many:
                    with self.subTest(many=many, at=at):
                        row = [3 * number for number in range(many)]
                        row[at] = row[at - 1] - 1
                        self.assertIs(is_row(row), False)

    def test_every_small_list(self):
        for many in range(6):
            for numbers in product((-1, 0, 1), repeat=many):
                row = list(numbers)
                with self.subTest(row=row):
                    self.assertIs(is_row(row), sorted(row) == row)

    def test_what_is_no_list(self):
        for thing in (
            (), (1, 2), "", "1 2", "-", b"", b"12", None, 0, 1, -5, True, False,
            {}, {1: 2}, {0: 1, 1: 2}, {1, 2}, range(3), object(), list, is_row,
        ):
            with self.subTest(thing=thing):
                self.assertIs(is_row(thing), False)

    def test_what_is_no_whole_number_anywhere_in_a_list(self):
        for thing in (True, False, "", "1", "a", None, [], [1], [1, 2], (), (1,), {}, {1: 2}, b"1", object(), int):
            for many in (0, 1, 2, 9):
                for at in sorted({0, many // 2, many}):
                    with self.subTest(thing=thing, many=many, at=at):
                        row = list(range(many))
                        row.insert(at, thing)
                        self.assertIs(is_row(row), False)

    def test_true_and_false_where_they_would_be_in_order(self):
        for thing in ([False], [True], [False, True], [0, True], [False, 1], [0, True, 2], [-1, False, 0], [1, 1, True]):
            with self.subTest(thing=thing):
                self.assertIs(is_row(thing), False)

    def test_things_of_one_kind_that_could_be_compared(self):
        for thing in (["a", "b"], [[1], [2]], [(1,), (2,)], [None, None], [[]], [()], [b"a", b"b"]):
            with self.subTest(thing=thing):
                self.assertIs(is_row(thing), False)

    def test_lists_and_tuples_thousands_deep(self):
        for thing in deep_things():
            self.assertIs(is_row(thing), False)

    def test_lists_thousands_deep_anywhere_in_a_list(self):
        for thing in deep_things():
            self.assertIs(is_row([thing]), False)
            self.assertIs(is_row([thing, 1, 2]), False)
            self.assertIs(is_row([1, thing, 2]), False)
            self.assertIs(is_row([1, 2, thing]), False)
            self.assertIs(is_row([thing, thing]), False)
            self.assertIs(is_row([thing, nested(50000, lambda inner, at: [inner])]), False)

    def test_a_list_within_itself(self):
        thing = [1]
        thing.append(thing)
        self.assertIs(is_row(thing), False)

    def test_what_is_handed_in_is_not_changed(self):
        for thing in ([], [1, 2, 2], [2, 1], [1, True], [[2], [1]], {1: 2}):
            before = repr(thing)
            is_row(thing)
            self.assertEqual(repr(thing), before)


class TestJoined(unittest.TestCase):
    def check(self, one, other):
        one_before, other_before = list(one), list(other)
        told = joined(one, other)
        self.assertIs(type(told), list)
        self.assertEqual(told, sorted(one_before + other_before))
        self.assertEqual(one, one_before)
        self.assertEqual(other, other_before)
        self.assertIsNot(told, one)
        self.assertIsNot(told, other)
        self.assertIs(is_row(told), True)

    def test_told_numbers(self):
        self.assertEqual(joined([1, 4, 4], [-2, 4, 9]), [-2, 1, 4, 4, 4, 9])

    def test_rows_of_none(self):
        self.assertEqual(joined([], []), [])
        self.assertEqual(joined([], [1, 2, 2]), [1, 2, 2])
        self.assertEqual(joined([1, 2, 2], []), [1, 2, 2])

    def test_rows_one_behind_the_other(self):
        self.check([1, 2, 3], [4, 5])
        self.check([4, 5], [1, 2, 3])

    def test_unlike_lengths(self):
        self.check([0], list(range(-150, 150)))
        self.check(list(range(-150, 150)), [10 ** 15])
        self.check(list(range(-150, 150)), [-10 ** 15])

    def test_like_numbers_in_both_are_kept_as_often_as_in_both(self):
        told = joined([-1, 3, 3, 3], [-1, -1, 3, 5])
        self.assertEqual(told, [-1, -1, -1, 3, 3, 3, 3, 5])

    def test_every_pair_of_small_rows(self):
        for one in small_rows(3):
            for other in small_rows(3):
                self.check(one, other)

    def test_long_rows_and_joined_ones_joined_again(self):
        chance = random.Random(5)
        for spread in (3, 100, 10 ** 15):
            one = sorted(chance.randint(-spread, spread) for _ in range(300))
            other = sorted(chance.randint(-spread, spread) for _ in range(300))
            self.check(one, other)
            more = joined(one, other)
            self.check(more, one)
            self.check(more, more)

    def test_one_list_handed_in_twice(self):
        row = [-1, 2, 2]
        self.assertEqual(joined(row, row), [-1, -1, 2, 2, 2, 2])
        self.assertEqual(row, [-1, 2, 2])

    def test_told_is_a_new_list_each_time(self):
        for one, other in (([], []), ([], [1, 2]), ([1, 2], []), ([1, 3], [2])):
            with self.subTest(one=one, other=other):
                should = sorted(one + other)
                first = joined(one, other)
                second = joined(one, other)
                self.assertIsNot(first, second)
                first.append(99)
                first[0] = -99
                self.assertEqual(second, should)
                self.assertEqual(joined(one, other), should)
                self.assertEqual(sorted(one + other), should)

    def test_what_becomes_of_the_rows_behind_the_call(self):
        for one, other in (([], [1, 2]), ([1, 2], []), ([1, 3], [2])):
            with self.subTest(one=one, other=other):
                should = sorted(one + other)
                told = joined(one, other)
                one.append(50)
                other.insert(0, -50)
                self.assertEqual(told, should)
                self.assertEqual(joined(one, other), sorted(one + other))


class TestManyBelowAndTo(unittest.TestCase):
    def check(self, row, number):
        before = list(row)
        below, at_most = many_below(row, number), many_to(row, number)
        self.assertIs(type(below), int)
        self.assertIs(type(at_most), int)
        self.assertEqual(below, sum(1 for own in before if own < number))
        self.assertEqual(at_most, sum(1 for own in before if own <= number))
        self.assertEqual(row, before)

    def test_told_numbers(self):
        row = [-4, 1, 1, 1, 6]
        self.assertEqual([many_below(row, number) for number in (-5, -4, 0, 1, 2, 6, 7)], [0, 0, 1, 1, 4, 4, 5])
        self.assertEqual([many_to(row, number) for number in (-5, -4, 0, 1, 2, 6, 7)], [0, 1, 1, 4, 4, 5, 5])

    def test_row_of_none(self):
        for number in (-FAR, -1, 0, 1, FAR):
            self.assertEqual(many_below([], number), 0)
            self.assertEqual(many_to([], number), 0)

    def test_row_of_one(self):
        for number in range(-3, 4):
            self.check([0], number)

    def test_ahead_of_all_and_behind_all(self):
        row = [-10 ** 15, 0, 0, 10 ** 15]
        for far in (10 ** 15 + 1, 10 ** 16, FAR):
            self.assertEqual((many_below(row, -far), many_to(row, -far)), (0, 0))
            self.assertEqual((many_below(row, far), many_to(row, far)), (4, 4))

    def test_every_small_row(self):
        for row in small_rows(5):
            for number in range(-4, 5):
                self.check(row, number)

    def test_neighbours_of_large_numbers(self):
        # Numbers that are no longer told apart once they are turned into ones with a point.
        row = [-10 ** 15, -10 ** 15 + 1, 10 ** 15 - 1, 10 ** 15]
        for number in row:
            for step in (-1, 0, 1):
                self.check(row, number + step)
        row = [FAR - 1, FAR, FAR, FAR + 1]
        for step in range(-3, 4):
            self.check(row, FAR + step)

    def test_rows_of_several_hundred_numbers(self):
        chance = random.Random(11)
        for spread in (2, 40, 1000, 10 ** 15):
            row = sorted(chance.randint(-spread, spread) for _ in range(300))
            row = joined(row, row[:150])
            for own in (row[0], row[1], row[225], row[-2], row[-1], 0, -FAR, FAR):
                for step in (-1, 0, 1):
                    self.check(row, own + step)

    def test_behind_a_change_the_row_is_counted_anew(self):
        row = [1, 2, 3]
        self.assertEqual((many_below(row, 3), many_to(row, 3)), (2, 3))
        row.append(3)
        row.insert(0, 0)
        self.assertEqual((many_below(row, 3), many_to(row, 3)), (3, 5))


if __name__ == "__main__":
    unittest.main()
