"""Walks through the order of all sums, one by one [1, 2, 9, 10]."""

import random
import time
import unittest

from sumplace.errors import NoPlace
from sumplace.manieth import sum_at
from sumplace.walks import Walk
from tests.helpers import all_pairs, check_whole_tuple, drawn_row, no_places, no_wholes, refuses, small_rows


class Model:
    """A walk over all pairs sorted."""

    def __init__(self, one, other, place):
        self.pairs = all_pairs(one, other)
        self.place = place

    def onward(self):
        if self.place == len(self.pairs):
            return None
        self.place += 1
        return self.pairs[self.place - 1]

    def backward(self):
        if self.place == 0:
            return None
        self.place -= 1
        return self.pairs[self.place]

    def left(self):
        return len(self.pairs) - self.place


class TestWalk(unittest.TestCase):
    def same_steps(self, walk, model, steps):
        """Go the steps (1 onward, -1 backward) with both; what is told, and how many are left, is the same."""
        self.assertEqual(walk.left(), model.left())
        for step in steps:
            told, should = (walk.onward(), model.onward()) if step > 0 else (walk.backward(), model.backward())
            self.assertEqual(told, should)
            left = walk.left()
            self.assertIs(type(left), int)
            self.assertEqual(left, model.left())

    def check(self, one, other, place, steps):
        before = (list(one), list(other))
        self.same_steps(Walk(one, other, place), Model(one, other, place), steps)
        self.assertEqual((one, other), before)

    def test_told_pairs(self):
        walk = Walk([1, 2], [10, 11, 20], 1)
        self.assertEqual(walk.left(), 5)
        self.assertEqual(walk.onward(), (12, 0, 1))
        self.assertEqual(walk.onward(), (12, 1, 0))
        self.assertEqual(walk.left(), 3)
        self.assertEqual(walk.backward(), (12, 1, 0))
        self.assertEqual(walk.backward(), (12, 0, 1))
        self.assertEqual(walk.backward(), (11, 0, 0))
        self.assertIsNone(walk.backward())
        self.assertEqual(walk.left(), 6)
        self.assertEqual(walk.onward(), (11, 0, 0))

    def test_told_is_a_tuple_of_three_whole_numbers(self):
        walk = Walk([1, 2], [10, 11, 20], 3)
        for told in (walk.onward(), walk.backward(), walk.backward()):
            check_whole_tuple(self, told, 3)

    def test_onward_from_the_begin_to_the_end_and_beyond(self):
        walk = Walk([1, 4, 4], [-2, 0], 0)
        self.assertEqual([walk.onward() for _ in range(6)], all_pairs([1, 4, 4], [-2, 0]))
        for _ in range(5):
            self.assertEqual(walk.left(), 0)
            self.assertIsNone(walk.onward())
        # The Nones were no steps.
        self.assertEqual(walk.backward(), (4, 2, 1))
        self.assertEqual(walk.left(), 1)

    def test_backward_from_the_end_to_the_begin_and_beyond(self):
        walk = Walk([1, 4, 4], [-2, 0], 6)
        self.assertEqual(walk.left(), 0)
        self.assertEqual([walk.backward() for _ in range(6)], all_pairs([1, 4, 4], [-2, 0])[::-1])
        for _ in range(5):
            self.assertEqual(walk.left(), 6)
            self.assertIsNone(walk.backward())
        self.assertEqual(walk.onward(), (-1, 0, 0))
        self.assertEqual(walk.left(), 5)

    def test_from_every_place_of_small_rows(self):
        for one in small_rows(2):
            for other in small_rows(3):
                many = len(one) * len(other)
                for place in range(many + 1):
                    self.check(one, other, place, [1] * (many + 3) + [-1] * (many + 3) + [1, 1])
                    self.check(one, other, place, [-1] * (many + 3) + [1] * (many + 3) + [-1, -1])

    def test_turned_about_again_and_again(self):
        one, other = [-4, -4, 0, 3], [-8, -1, -1, 2, 6]
        for place in (0, 1, 10, 19, 20):
            self.check(one, other, place, [1, -1] * 30)
            self.check(one, other, place, [-1, 1] * 30)
            self.check(one, other, place, [1, 1, -1] * 30)
            self.check(one, other, place, [-1, 1, -1] * 30)

    def test_ways_drawn_by_chance(self):
        chance = random.Random(9)
        for _ in range(80):
            one = drawn_row(chance, chance.randrange(9), chance.choice((1, 4, 10 ** 15)))
            other = drawn_row(chance, chance.randrange(9), chance.choice((1, 4, 10 ** 15)))
            place = chance.randrange(len(one) * len(other) + 1)
            self.check(one, other, place, [chance.choice((1, -1)) for _ in range(150)])

    def test_rows_of_none(self):
        for one, other in (([], []), ([], [1, 2]), ([1, 2], [])):
            self.check(one, other, 0, [1, 1, -1, -1, 1, -1])

    def test_one_list_handed_in_twice(self):
        row = [-3, 0, 0, 2, 7]
        self.check(row, row, 11, [1] * 16 + [-1] * 27)

    def test_the_rows_changed_behind_the_making(self):
        for place in (0, 2, 6):
            for taken in (0, 1, 4):
                one, other = [1, 4, 4], [-2, 0]
                walk, model = Walk(one, other, place), Model(one, other, place)
                self.same_steps(walk, model, [1] * taken)
                one.insert(0, -9)
                self.same_steps(walk, model, [1, 1, -1])
                other.insert(0, -9)
                self.same_steps(walk, model, [1] * 8 + [-1] * 8)
                one.clear()
                other[0] = -100
                self.same_steps(walk, model, [1] * 8 + [-1] * 8)
                self.assertEqual((one, other), ([], [-100, -2, 0]))

    def test_one_of_the_rows_changed_ahead_of_the_first_step(self):
        for place in (0, 2, 6):
            for changed in (0, 1):
                rows = ([1, 4, 4], [-2, 0])
                walk, model = Walk(*rows, place), Model(*rows, place)
                rows[changed][0] = -9
                rows[changed].append(70)
                self.same_steps(walk, model, [1] * 8 + [-1] * 8)

    def test_what_was_told_is_not_taken_back_by_later_steps(self):
        walk = Walk([1, 2], [10, 11, 20], 0)
        told = [walk.onward() for _ in range(6)]
        for _ in range(6):
            walk.backward()
        self.assertEqual(told, all_pairs([1, 2], [10, 11, 20]))

    def test_several_walks_of_the_same_rows_each_by_itself(self):
        chance = random.Random(10)
        one, other = [-4, -4, 0, 3], [-8, -1, -1, 2, 6]
        places = (0, 0, 7, 20, 13)
        walks = [(Walk(one, other, place), Model(one, other, place)) for place in places]
        for _ in range(400):
            walk, model = chance.choice(walks)
            self.same_steps(walk, model, [chance.choice((1, -1))])
            with self.assertRaises(NoPlace):
                Walk(one, other, chance.choice((21, -1, True, "0", None, [3])))
            walks.append((Walk(one, other, 5), Model(one, other, 5)))
            walks.pop(chance.randrange(len(walks)))

    def test_what_is_no_place(self):
        one, other = [1, 2, 2], [-4, 0]
        # The count of pairs, 6, is one yet: the walk then stands behind the last pair.
        self.assertIsNone(Walk(one, other, 6).onward())
        refuses(self, lambda thing: Walk(one, other, thing), no_places(7))
        self.assertEqual((one, other), ([1, 2, 2], [-4, 0]))

    def test_what_is_no_place_where_a_row_is_of_none(self):
        for one, other in (([], []), ([], [1, 2]), ([1, 2], [])):
            refuses(self, lambda thing: Walk(one, other, thing), [-1, 1, 2])
        refuses(self, lambda thing: Walk([], [1, 2], thing), no_wholes())

    def test_what_is_refused_is_not_changed(self):
        for thing in ([], [2, 1], [[0], [1]], {1: [2]}, (0, [1])):
            before = repr(thing)
            with self.assertRaises(NoPlace):
                Walk([1, 2], [3, 4], thing)
            self.assertEqual(repr(thing), before)


class TestLongWalks(unittest.TestCase):
    def setUp(self):
        chance = random.Random(12)
        self.one, self.other = drawn_row(chance, 300, 2000), drawn_row(chance, 300, 2000)
        self.pairs = all_pairs(self.one, self.other)

    def test_through_all_pairs_there_and_back_in_a_time_that_nobody_notices(self):
        begin = time.process_time()
        walk = Walk(self.one, self.other, 0)
        self.assertTrue(all(walk.onward() == pair for pair in self.pairs))
        self.assertIsNone(walk.onward())
        self.assertEqual(walk.left(), 0)
        self.assertTrue(all(walk.backward() == pair for pair in reversed(self.pairs)))
        self.assertIsNone(walk.backward())
        self.assertEqual(walk.left(), 90000)
        self.assertLess(time.process_time() - begin, 10)

    def test_the_rows_changed_behind_the_making(self):
        for changed in (self.one, self.other):
            before = list(changed)
            walk = Walk(self.one, self.other, 60000)
            self.assertEqual(walk.onward(), self.pairs[60000])
            changed[:] = [number - 7 for number in changed[:-2]]
            # To show where lists as long as these differ would take minutes.
            self.assertTrue([walk.backward() for _ in range(9000)] == self.pairs[51001:60001][::-1])
            self.assertEqual(walk.left(), 90000 - 51001)
            changed[:] = before

    def test_turned_about_often_far_from_begin_and_end(self):
        begin = time.process_time()
        for place in (0, 1999, 2000, 2001, 45000, 88000, 90000):
            walk = Walk(self.one, self.other, place)
            at = place
            for reach in list(range(1, 60)) + [2500, 4500]:
                for _ in range(min(reach, 90000 - at)):
                    self.assertEqual(walk.onward(), self.pairs[at])
                    at += 1
                for _ in range(min(reach, at)):
                    at -= 1
                    self.assertEqual(walk.backward(), self.pairs[at])
                self.assertEqual(walk.left(), 90000 - at)
        self.assertLess(time.process_time() - begin, 10)

    def test_begun_at_drawn_places(self):
        chance = random.Random(13)
        for _ in range(20):
            place = chance.randrange(1, 90000)
            walk = Walk(self.one, self.other, place)
            self.assertEqual(walk.left(), 90000 - place)
            self.assertEqual(walk.onward(), sum_at(self.one, self.other, place))
            self.assertEqual(walk.backward(), self.pairs[place])
            self.assertEqual(walk.backward(), self.pairs[place - 1])


if __name__ == "__main__":
    unittest.main()
