"""Live pairs of rows [1, 2, 25, 26, 27]."""

import random
import time
import unittest

from sumplace.errors import NoNumber, NoPlace, NoSide
from sumplace.live import Live
from sumplace.rows import is_row
from tests.helpers import FAR, all_pairs, check_whole_tuple, drawn_row, no_places, no_wholes, refuses


def no_sides():
    """Things of any kind that are neither 0 nor 1."""
    yield from (-2, -1, 2, 3, 300, FAR, -FAR, FAR ** 200)
    yield from no_wholes()


class Case(unittest.TestCase):
    def check(self, live, one, other):
        """Let the case fail unless just these are the rows of now, and all is told of them."""
        told = live.rows()
        self.assertIs(type(told), tuple)
        self.assertEqual([type(row) for row in told], [list, list])
        self.assertEqual(told, (one, other))
        pairs = all_pairs(one, other)
        self.assertEqual([live.at(place) for place in range(len(pairs))], pairs)
        for place in (-1, len(pairs), len(pairs) + 1):
            with self.assertRaises(NoPlace):
                live.at(place)
        for number in {own + step for own in [0] + [pair[0] for pair in pairs[::3]] for step in (-1, 0, 1)}:
            below = live.below(number)
            self.assertIs(type(below), int)
            self.assertEqual(below, sum(1 for pair in pairs if pair[0] < number))


class TestChanges(Case):
    def test_rows_that_were_handed_in(self):
        for one, other in (([], []), ([], [1, 2]), ([1, 2], []), ([3], [-5]), ([1, 4, 4], [-2, 0, 0])):
            self.check(Live(one, other), list(one), list(other))

    def test_numbers_put_into_either_row(self):
        live = Live([1, 4], [10])
        self.assertIsNone(live.put(0, 2))
        self.check(live, [1, 2, 4], [10])
        self.assertIsNone(live.put(1, 10))
        self.check(live, [1, 2, 4], [10, 10])
        live.put(1, -7)
        live.put(0, 9)
        live.put(0, 1)
        self.check(live, [1, 1, 2, 4, 9], [-7, 10, 10])

    def test_one_of_the_likes_is_taken_out(self):
        live = Live([1, 4, 4, 4], [10, 10])
        self.assertIsNone(live.take(0, 4))
        self.check(live, [1, 4, 4], [10, 10])
        self.assertIsNone(live.take(1, 10))
        self.check(live, [1, 4, 4], [10])
        live.take(0, 1)
        live.take(1, 10)
        self.check(live, [4, 4], [])
        live.take(0, 4)
        live.take(0, 4)
        self.check(live, [], [])

    def test_put_into_rows_of_none_and_far_numbers(self):
        live = Live([], [])
        for number in (0, 10 ** 15, -10 ** 15, -1):
            live.put(1, number)
        self.check(live, [], [-10 ** 15, -1, 0, 10 ** 15])
        live.put(0, -10 ** 15)
        self.check(live, [-10 ** 15], [-10 ** 15, -1, 0, 10 ** 15])
        live.put(0, 10 ** 30 - 1)
        live.put(0, -10 ** 30 + 1)
        self.check(live, [-10 ** 30 + 1, -10 ** 15, 10 ** 30 - 1], [-10 ** 15, -1, 0, 10 ** 15])

    def test_each_row_stays_a_row(self):
        chance = random.Random(35)
        live = Live([], [])
        for _ in range(120):
            live.put(chance.randrange(2), chance.randint(-9, 9))
            self.assertTrue(all(is_row(row) for row in live.rows()))

    def test_one_list_handed_in_twice_is_two_rows(self):
        row = [1, 2]
        live = Live(row, row)
        live.put(0, 5)
        self.check(live, [1, 2, 5], [1, 2])
        live.take(1, 1)
        self.check(live, [1, 2, 5], [2])
        live.undo()
        live.undo()
        self.check(live, [1, 2], [1, 2])
        self.assertEqual(row, [1, 2])


class TestUndo(Case):
    def test_nothing_to_undo(self):
        live = Live([1], [2])
        for _ in range(3):
            self.assertIs(live.undo(), False)
            self.check(live, [1], [2])

    def test_a_put_undone(self):
        live = Live([1, 4], [10])
        live.put(0, 4)
        self.assertIs(live.undo(), True)
        self.check(live, [1, 4], [10])
        self.assertIs(live.undo(), False)
        live.put(1, -3)
        self.assertIs(live.undo(), True)
        self.check(live, [1, 4], [10])

    def test_a_take_undone(self):
        live = Live([1, 4, 4], [10])
        live.take(0, 4)
        self.assertIs(live.undo(), True)
        self.check(live, [1, 4, 4], [10])
        live.take(1, 10)
        self.check(live, [1, 4, 4], [])
        self.assertIs(live.undo(), True)
        self.check(live, [1, 4, 4], [10])
        self.assertIs(live.undo(), False)

    def test_the_last_change_not_undone_yet(self):
        live = Live([1], [2])
        live.put(0, 5)
        live.put(1, 6)
        live.take(0, 1)
        self.assertIs(live.undo(), True)
        self.check(live, [1, 5], [2, 6])
        live.put(0, 7)
        self.check(live, [1, 5, 7], [2, 6])
        self.assertIs(live.undo(), True)
        self.check(live, [1, 5], [2, 6])
        # The take was undone before: it is neither undone again nor done again.
        self.assertIs(live.undo(), True)
        self.check(live, [1, 5], [2])
        self.assertIs(live.undo(), True)
        self.check(live, [1], [2])
        self.assertIs(live.undo(), False)
        self.check(live, [1], [2])

    def test_an_undo_is_no_change_that_is_undone(self):
        live = Live([], [])
        live.put(0, 1)
        live.put(0, 2)
        self.assertEqual([live.undo(), live.undo(), live.undo()], [True, True, False])
        self.check(live, [], [])

    def test_ways_drawn_by_chance(self):
        chance = random.Random(36)
        for _ in range(30):
            rows = (drawn_row(chance, chance.randrange(4), 3), drawn_row(chance, chance.randrange(4), 3))
            live = Live(*rows)
            states = [rows]
            for _ in range(60):
                one, other = (list(row) for row in states[-1])
                side, number = chance.randrange(2), chance.randint(-4, 4)
                act = chance.choice(("put", "take", "undo", "refused"))
                if act == "put":
                    live.put(side, number)
                    states.append((sorted(one + [number]), other) if side == 0 else (one, sorted(other + [number])))
                elif act == "take" and number in (one, other)[side]:
                    live.take(side, number)
                    (one, other)[side].remove(number)
                    states.append((one, other))
                elif act == "undo":
                    self.assertIs(live.undo(), len(states) > 1)
                    if len(states) > 1:
                        states.pop()
                else:
                    with self.assertRaises(NoNumber):
                        live.take(side, 99)
                self.check(live, *states[-1])

    def test_many_changes_undone_to_the_begin(self):
        chance = random.Random(37)
        live = Live([3, 3], [0])
        states = []
        for _ in range(1500):
            states.append(live.rows())
            side = chance.randrange(2)
            row = states[-1][side]
            if row and (len(row) == 300 or chance.randrange(5) < 2):
                live.take(side, chance.choice(row))
            else:
                live.put(side, chance.randint(-50, 50))
        while states:
            self.assertIs(live.undo(), True)
            self.assertEqual(live.rows(), states.pop())
        self.assertIs(live.undo(), False)
        self.assertEqual(live.rows(), ([3, 3], [0]))


class TestRefused(Case):
    def setUp(self):
        self.live = Live([0, 1, 4], [10])
        self.live.put(0, 2)

    def unchanged(self):
        """The rows are as they were, and what is undone is the put of the begin."""
        self.check(self.live, [0, 1, 2, 4], [10])
        self.assertIs(self.live.undo(), True)
        self.check(self.live, [0, 1, 4], [10])
        self.assertIs(self.live.undo(), False)

    def test_what_is_no_side(self):
        refuses(self, lambda thing: self.live.put(thing, 1), no_sides(), NoSide)
        refuses(self, lambda thing: self.live.take(thing, 1), no_sides(), NoSide)
        self.unchanged()

    def test_true_and_false_are_no_sides(self):
        refuses(self, lambda thing: self.live.put(thing, 1), (True, False), NoSide)
        refuses(self, lambda thing: self.live.take(thing, 10), (True, False), NoSide)
        self.unchanged()

    def test_what_is_no_whole_number(self):
        for side in (0, 1):
            refuses(self, lambda thing: self.live.put(side, thing), no_wholes(), NoNumber)
            # True and False would stand for the 1 and the 0 that are there.
            refuses(self, lambda thing: self.live.take(side, thing), no_wholes(), NoNumber)
        self.unchanged()

    def test_what_is_not_there_to_be_taken(self):
        absent = (-FAR, -10 ** 15, -1, 3, 5, 9, 11, 10 ** 15, FAR, FAR ** 200)
        refuses(self, lambda thing: self.live.take(0, thing), absent + (10,), NoNumber)
        refuses(self, lambda thing: self.live.take(1, thing), absent + (0, 1, 2, 4), NoNumber)
        self.unchanged()

    def test_taken_once_more_than_it_is_there(self):
        live = Live([4, 4], [])
        live.take(0, 4)
        live.take(0, 4)
        refuses(self, lambda thing: live.take(0, thing), [4, 0], NoNumber)
        refuses(self, lambda thing: live.take(1, thing), [4, 0], NoNumber)
        self.check(live, [], [])
        self.assertEqual([live.undo(), live.undo(), live.undo()], [True, True, False])
        self.check(live, [4, 4], [])

    def test_the_side_is_told_ahead_of_the_number(self):
        full = Live([5] * 300, [5] * 300)
        for side in (2, -1, True, None, "0", [0]):
            for number in (None, "1", True, 77, [1]):
                refuses(self, lambda thing: self.live.take(thing, number), [side], NoSide)
                refuses(self, lambda thing: full.put(thing, number), [side], NoSide)
        refuses(self, lambda thing: self.live.put(thing, thing), no_wholes(), NoSide)
        refuses(self, lambda thing: self.live.take(thing, thing), no_wholes(), NoSide)
        self.unchanged()

    def test_what_is_no_place(self):
        refuses(self, self.live.at, no_places(4))
        self.unchanged()

    def test_no_place_where_a_row_is_of_none(self):
        for live in (Live([], []), Live([1], []), Live([], [1])):
            refuses(self, live.at, [-1, 0, 1])
            self.assertEqual((live.below(-FAR), live.below(0), live.below(FAR)), (0, 0, 0))

    def test_what_is_refused_is_not_changed(self):
        for thing in ([], [2, 1], [[0], [1]], {1: [2]}, (0, [1])):
            before = repr(thing)
            for refusal, call in (
                (NoSide, lambda: self.live.put(thing, 1)),
                (NoSide, lambda: self.live.take(thing, 1)),
                (NoNumber, lambda: self.live.put(0, thing)),
                (NoNumber, lambda: self.live.take(0, thing)),
                (NoPlace, lambda: self.live.at(thing)),
            ):
                with self.assertRaises(refusal):
                    call()
            self.assertEqual(repr(thing), before)
        self.unchanged()


class TestThreeHundred(Case):
    def test_one_too_many(self):
        for side in (0, 1):
            live = Live([7], [7])
            for number in range(299):
                live.put(side, -number)
            full = live.rows()
            self.assertEqual(len(full[side]), 300)
            refuses(self, lambda thing: live.put(side, thing), [0, 7, -5, 10 ** 15, -10 ** 15], NoNumber)
            self.assertEqual(live.rows(), full)
            # The other row has room still.
            live.put(1 - side, 8)
            self.assertEqual(live.rows()[1 - side], [7, 8])
            self.assertIs(live.undo(), True)
            self.assertEqual(live.rows(), full)
            # What was refused isn't undone: the last change is the put of the three-hundredth.
            self.assertIs(live.undo(), True)
            self.assertEqual(live.rows()[side], full[side][1:])
            live.put(side, 9)
            self.assertEqual(live.rows()[side], full[side][1:] + [9])
            refuses(self, lambda thing: live.put(side, thing), [9], NoNumber)

    def test_a_full_row_handed_in(self):
        live = Live([5] * 300, list(range(299)))
        refuses(self, lambda thing: live.put(0, thing), [5], NoNumber)
        live.put(1, 5)
        refuses(self, lambda thing: live.put(1, thing), [5], NoNumber)
        live.take(0, 5)
        live.put(0, -1)
        refuses(self, lambda thing: live.put(0, thing), [5], NoNumber)
        self.assertEqual(live.rows(), ([-1] + [5] * 299, sorted(list(range(299)) + [5])))
        self.assertEqual([live.undo() for _ in range(4)], [True, True, True, False])
        self.assertEqual(live.rows(), ([5] * 300, list(range(299))))

    def test_long_rows_in_a_time_that_nobody_notices(self):
        chance = random.Random(38)
        one, other = drawn_row(chance, 300, 10 ** 15), drawn_row(chance, 299, 10 ** 15)
        pairs = all_pairs(one, other)
        live = Live(one, other)
        begin = time.process_time()
        for place in range(0, 89700, 2000):
            live.put(1, one[0])
            self.assertIs(live.undo(), True)
            self.assertEqual(live.at(place), pairs[place])
            self.assertEqual(live.below(pairs[place][0]), place)
        self.assertLess(time.process_time() - begin, 2)


class TestKept(Case):
    def test_the_lists_changed_behind_the_making(self):
        one, other = [1, 4], [10]
        live = Live(one, other)
        one.append(9)
        other.clear()
        self.check(live, [1, 4], [10])
        live.put(0, 3)
        one[0] = -5
        self.check(live, [1, 3, 4], [10])
        self.assertEqual((one, other), ([-5, 4, 9], []))

    def test_what_is_handed_in_is_not_changed(self):
        one, other = [1, 4], [10]
        live = Live(one, other)
        live.put(0, 3)
        live.take(1, 10)
        live.undo()
        self.assertEqual((one, other), ([1, 4], [10]))

    def test_the_rows_told_are_the_askers_own(self):
        live = Live([1, 4], [10])
        told = live.rows()
        told[0].append(99)
        told[1].clear()
        self.check(live, [1, 4], [10])
        told = live.rows()
        live.put(0, 2)
        live.take(1, 10)
        self.assertEqual(told, ([1, 4], [10]))
        self.assertIsNot(live.rows()[0], live.rows()[0])

    def test_several_live_pairs_of_the_same_rows(self):
        row = [1, 2]
        one, other = Live(row, row), Live(row, row)
        one.put(0, 9)
        self.assertIs(other.undo(), False)
        self.check(one, [1, 2, 9], [1, 2])
        self.check(other, [1, 2], [1, 2])

    def test_told_pairs_are_tuples_of_three_whole_numbers(self):
        live = Live([1, 2], [10, 11, 20])
        for place in range(6):
            check_whole_tuple(self, live.at(place), 3)


if __name__ == "__main__":
    unittest.main()
