"""What is told by one way is told by the others [1, 2]."""

import random
import unittest

from sumplace.below import sums_below, sums_to
from sumplace.desk import Desk
from sumplace.differences import difference_at, differences_below, within_at, within_below
from sumplace.likes import like_sums, most_sum, nearest
from sumplace.live import Live
from sumplace.looks import Glass, sum_by_looks
from sumplace.manieth import middle, sum_at
from sumplace.notes import read_row, show_row
from sumplace.papers import by_paper, paper_of, place_of, places_of
from sumplace.products import product_at, products_below
from sumplace.rows import is_row, joined, many_below, many_to
from sumplace.several import first_ways, ways_to
from sumplace.walks import Walk
from tests.helpers import FAR, drawn_row, small_rows


class TestOneOrder(unittest.TestCase):
    """All sums of two rows stand in one order, and every part of the program tells that one."""

    def check(self, one, other):
        before = (list(one), list(other))
        many = len(one) * len(other)
        order = [sum_at(one, other, place) for place in range(many)]
        self.assertEqual(order, sorted(order))
        self.places(one, other, order)
        self.steps(one, other, order)
        self.numbers(one, other, order)
        self.kept(one, other, order)
        self.assertEqual((one, other), before)

    def places(self, one, other, order):
        """At which place a pair stands, few looks, the middle, and the ways of two rows."""
        for place, (total, first, second) in enumerate(order):
            self.assertEqual(total, one[first] + other[second])
            self.assertEqual(place_of(one, other, (first, second)), place)
            self.assertEqual(sum_by_looks(Glass(one), Glass(other), place), total)
            begin, end = places_of(one, other, total)
            self.assertTrue(begin <= place < end)
        if order:
            self.assertEqual(middle(one, other), order[len(order) // 2])
            ways = [(total, [first, second]) for total, first, second in order]
            self.assertEqual(first_ways([one, other], 500), ways[:500])

    def steps(self, one, other, order):
        """Walks from several places, each there and back."""
        many = len(order)
        for place in sorted({0, many // 3, many}):
            walk = Walk(one, other, place)
            self.assertEqual([walk.onward() for _ in range(many - place + 1)], order[place:] + [None])
            self.assertEqual(walk.left(), 0)
            self.assertEqual([walk.backward() for _ in range(many + 1)], order[::-1] + [None])
            self.assertEqual(walk.left(), many)

    def numbers(self, one, other, order):
        """How many are below a number, by every part that counts; and the like sums."""
        sums = [pair[0] for pair in order]
        numbers = {own + step for own in sums[:: max(1, len(sums) // 25)] for step in (-1, 0, 1)} | {0, -FAR, FAR}
        turned = [-number for number in other[::-1]]
        live = Live(one, other)
        for number in sorted(numbers):
            below, to = sums_below(one, other, number), sums_to(one, other, number)
            self.assertEqual((below, to), (many_below(sums, number), many_to(sums, number)))
            self.assertEqual(places_of(one, other, number), (below, to))
            self.assertEqual(by_paper(one, other, number, paper_of(one, other, number)), below)
            self.assertEqual(sum(paper_of(other, one, number)), below)
            self.assertEqual(live.below(number), below)
            # Less the numbers with their signs turned is as much as plus them.
            self.assertEqual(differences_below(one, turned, number), below)
            likes = like_sums(one, other)
            self.assertEqual(sum(many for own, many in likes if own < number), below)
            self.assertEqual(dict(likes).get(number, 0), to - below)
            near = nearest(one, other, number)
            self.assertEqual(near, min(order, key=lambda pair: abs(pair[0] - number), default=None))
            if order:
                self.assertEqual(ways_to([one, other], number), min(500, to))
        most = max(like_sums(one, other), key=lambda like: (like[1], -like[0]), default=None)
        self.assertEqual(most_sum(one, other), most)

    def kept(self, one, other, order):
        """The rows as a live pair and a desk keep them, changed and changed back."""
        live, desk = Live(one, other), Desk()
        self.assertEqual(desk.say("row 0 " + show_row(one)), "ok")
        self.assertEqual(desk.say("row 1 " + show_row(other)), "ok")
        live.put(0, 3)
        live.take(0, 3)
        desk.say("put 1 -5")
        self.assertEqual((live.undo(), live.undo(), desk.say("undo")), (True, True, "ok"))
        self.assertEqual(live.rows(), (one, other))
        for place in range(0, len(order), max(1, len(order) // 25)):
            self.assertEqual(live.at(place), order[place])
            self.assertEqual(desk.say(f"at {place}"), "{} {} {}".format(*order[place]))
            total = order[place][0]
            self.assertEqual(desk.say(f"below {total}"), str(sums_below(one, other, total)))
            self.assertEqual(desk.say(f"to {total}"), str(sums_to(one, other, total)))
        if order:
            self.assertEqual(desk.say("middle"), "{} {} {}".format(*middle(one, other)))

    def test_every_two_small_rows(self):
        for one in small_rows(2):
            for other in small_rows(3):
                self.check(one, other)

    def test_like_numbers(self):
        self.check([4] * 5, [-2] * 7)
        self.check([0, 0, 1, 1, 1, 5], [-1, -1, 0, 0, 0])
        self.check([1, 2, 3, 4], [1, 2, 3, 4])

    def test_drawn_rows(self):
        chance = random.Random(43)
        for many, more in ((1, 30), (30, 1), (9, 14), (27, 25)):
            for spread in (2, 30, 10 ** 15):
                self.check(drawn_row(chance, many, spread), drawn_row(chance, more, spread))

    def test_one_list_handed_in_twice(self):
        row = [-3, 0, 0, 2, 7]
        self.check(row, row)

    def test_joined_rows(self):
        one = joined([1, 4, 4], [-2, 4])
        self.check(one, joined(one, [0]))

    def test_changed_rows_tell_the_order_of_now(self):
        chance = random.Random(44)
        live, desk = Live([], []), Desk()
        for _ in range(60):
            side, number = chance.randrange(2), chance.randint(-6, 6)
            row = live.rows()[side]
            if row and chance.randrange(3) == 0:
                live.take(side, row[0])
                desk.say(f"take {side} {row[0]}")
            else:
                live.put(side, number)
                desk.say(f"put {side} {number}")
            one, other = live.rows()
            self.assertEqual((read_row(desk.say("show 0")), read_row(desk.say("show 1"))), (one, other))
            walk = Walk(one, other, 0)
            for place in range(len(one) * len(other)):
                pair = walk.onward()
                self.assertEqual(live.at(place), pair)
                self.assertEqual(desk.say(f"at {place}"), "{} {} {}".format(*pair))
                self.assertEqual(place_of(one, other, pair[1:]), place)


class TestNothingIsKept(unittest.TestCase):
    """What is handed in is neither changed nor kept, and each list told is a new one."""

    CALLS = (
        (joined, ([1, 2], [2, 5])),
        (first_ways, ([[1, 2], [2, 5], [0]], 3)),
        (like_sums, ([1, 2], [2, 5])),
        (paper_of, ([1, 2], [2, 5], 5)),
        (read_row, ("1 2",)),
    )

    OTHERS = (
        (is_row, ([1, 2],)),
        (many_below, ([1, 2], 2)),
        (many_to, ([1, 2], 2)),
        (sums_below, ([1, 2], [2, 5], 5)),
        (sums_to, ([1, 2], [2, 5], 5)),
        (sum_at, ([1, 2], [2, 5], 2)),
        (middle, ([1, 2], [2, 5])),
        (differences_below, ([1, 2], [2, 5], 0)),
        (difference_at, ([1, 2], [2, 5], 1)),
        (within_below, ([1, 2, 5], 2)),
        (within_at, ([1, 2, 5], 2)),
        (products_below, ([1, 2], [2, 5], 5)),
        (product_at, ([1, 2], [2, 5], 1)),
        (ways_to, ([[1, 2], [2, 5], [0]], 5)),
        (most_sum, ([1, 2], [2, 5])),
        (nearest, ([1, 2], [2, 5], 5)),
        (place_of, ([1, 2], [2, 5], (1, 0))),
        (places_of, ([1, 2], [2, 5], 4)),
        (by_paper, ([1, 2], [2, 5], 5, [1, 1])),
        (show_row, ([1, 2],)),
    )

    def test_a_call_tells_the_same_again_and_changes_nothing(self):
        for call, arguments in self.CALLS + self.OTHERS:
            with self.subTest(call.__name__):
                before = repr(arguments)
                told = repr(call(*arguments))
                self.assertEqual(repr(call(*arguments)), told)
                self.assertEqual(repr(arguments), before)

    def test_a_list_told_can_be_changed_without_harm(self):
        for call, arguments in self.CALLS:
            with self.subTest(call.__name__):
                told, again = call(*arguments), call(*arguments)
                self.assertIs(type(told), list)
                self.assertIsNot(told, again)
                before = repr(again)
                told.append("more")
                told.reverse()
                self.assertEqual(repr(again), before)
                self.assertEqual(repr(call(*arguments)), before)


if __name__ == "__main__":
    unittest.main()
