"""The ways to take a place of each of several rows [1, 16, 17, 18]."""

import random
import time
import unittest
from itertools import product

from sumplace.below import sums_to
from sumplace.manieth import sum_at
from sumplace.rows import many_to
from sumplace.several import first_ways, ways_to
from tests.helpers import FAR, drawn_row, small_rows


def all_ways(rows):
    """All ways (sum, list of places), in their order."""
    return sorted(
        (sum(row[place] for row, place in zip(rows, places)), list(places))
        for places in product(*[range(len(row)) for row in rows])
    )


class Case(unittest.TestCase):
    def check_kinds(self, told, rows):
        """A list of tuples (sum, list of places), no list of it in it twice over."""
        self.assertIs(type(told), list)
        for way in told:
            self.assertIs(type(way), tuple)
            self.assertEqual([type(part) for part in way], [int, list])
            self.assertEqual([type(place) for place in way[1]], [int] * len(rows))
        self.assertEqual(len({id(way[1]) for way in told}), len(told))

    def check(self, rows, manies=None, numbers=None):
        before = [list(row) for row in rows]
        ways = all_ways(rows)
        for many in (0, 1, 2, len(ways) - 1, len(ways), len(ways) + 1, 500) if manies is None else manies:
            if 0 <= many <= 500:
                told = first_ways(rows, many)
                self.check_kinds(told, rows)
                self.assertEqual(told, ways[:many], (before, many))
        near = {way[0] + step for way in ways[:600] for step in (-1, 0, 1)}
        for number in sorted(near | {0, -FAR, FAR}) if numbers is None else numbers:
            told = ways_to(rows, number)
            self.assertIs(type(told), int)
            should = sum(1 for way in ways if way[0] <= number)
            self.assertEqual(told, min(500, should), (before, number))
        self.assertEqual(rows, before)


class TestFew(Case):
    def test_told_ways(self):
        rows = [[1, 2], [10, 11], [0, 100]]
        told = [(11, [0, 0, 0]), (12, [0, 1, 0]), (12, [1, 0, 0]), (13, [1, 1, 0]), (111, [0, 0, 1])]
        self.assertEqual(first_ways(rows, 5), told)
        told = [ways_to(rows, n) for n in (10, 11, 12, 13, 110, 111, 112, 113, FAR)]
        self.assertEqual(told, [0, 1, 3, 4, 4, 5, 7, 8, 8])

    def test_none_asked_for(self):
        self.assertEqual(first_ways([[1, 2], [3]], 0), [])
        self.assertEqual(first_ways([[1] * 300] * 5, 0), [])

    def test_fewer_where_there_are_no_more(self):
        self.assertEqual(first_ways([[7]], 500), [(7, [0])])
        self.assertEqual(first_ways([[7], [-9]], 2), [(-2, [0, 0])])
        self.assertEqual(len(first_ways([[1, 2, 3], [4, 5]], 500)), 6)

    def test_one_row_is_told_in_its_own_order(self):
        row = [-5, -5, 0, 3, 3, 3, 8]
        self.assertEqual(first_ways([row], 500), [(number, [place]) for place, number in enumerate(row)])
        for number in range(-7, 10):
            self.assertEqual(ways_to([row], number), many_to(row, number))
        self.check([row])

    def test_like_sums_as_lists_of_places_are_ordered(self):
        told = first_ways([[4] * 2, [0] * 3, [-1] * 2], 12)
        self.assertEqual(told, [(3, [i, j, k]) for i in range(2) for j in range(3) for k in range(2)])
        # The first place that differs decides, whatever stands behind it.
        told = first_ways([[0, 1, 2], [0, 1, 2], [0, 1, 2]], 10)
        self.assertEqual(
            [places for total, places in told if total == 2],
            [[0, 0, 2], [0, 1, 1], [0, 2, 0], [1, 0, 1], [1, 1, 0], [2, 0, 0]],
        )
        self.check([[0, 0, 1, 1], [0, 1, 1], [0, 0, 1]])
        self.check([[1, 2, 3, 4]] * 4)

    def test_every_three_small_rows(self):
        rows = [row for row in small_rows(2) if row]
        for one in rows:
            for other in rows:
                for third in ([0], [1, 1], [-2, 0, 1]):
                    self.check([one, other, third], range(14), range(-6, 6))

    def test_every_two_small_rows(self):
        rows = [row for row in small_rows(3) if row]
        for one in rows:
            for other in rows:
                self.check([one, other], (1, 5, 9), (-1, 0, 1))

    def test_numbers_below_nought_and_far_ones(self):
        far = 10 ** 15
        self.check([[-far, -far, 0, far], [-far, -1, far - 1], [-3, far], [-far, far]])
        self.check([[-9, -7, -7], [-20, -6], [-2, -1], [-8, -8]])

    def test_drawn_rows_of_any_count(self):
        chance = random.Random(23)
        for many in (1, 2, 3, 4, 5):
            for spread in (1, 4, 20, 10 ** 15):
                for _ in range(4):
                    rows = [drawn_row(chance, chance.randint(1, 6), spread) for _ in range(many)]
                    numbers = [way[0] for way in all_ways(rows)[::97]] + [0]
                    self.check(rows, (1, 7, 100, 499, 500), numbers)

    def test_one_row_handed_in_for_several(self):
        row = [-3, 0, 0, 2, 7]
        self.check([row, row, row])
        self.assertEqual(row, [-3, 0, 0, 2, 7])


class TestMany(Case):
    def test_counted_to_five_hundred_and_no_further(self):
        # Of two rows of 0 to 39, n + 1 ways have the sum n up to 39.
        rows = [list(range(40)), list(range(40))]
        told = [ways_to(rows, n) for n in (-1, 0, 1, 29, 30, 31, 78, FAR)]
        self.assertEqual(told, [0, 1, 3, 465, 496, 500, 500, 500])
        self.assertEqual(ways_to([[0] * 25, [0] * 20], 0), 500)
        self.assertEqual(ways_to([[0] * 26, [0] * 20], 0), 500)
        self.assertEqual(ways_to([[0] * 499], 0), 499)
        self.assertEqual(ways_to([[0] * 300, [0]], 0), 300)
        self.assertEqual(ways_to([[0] * 300, [0] * 300], -1), 0)

    def test_the_first_five_hundred(self):
        chance = random.Random(24)
        for spread in (0, 3, 100, 10 ** 15):
            rows = [drawn_row(chance, many, spread) for many in (13, 9, 11, 8)]
            told = first_ways(rows, 500)
            self.check_kinds(told, rows)
            self.assertEqual(told, all_ways(rows)[:500])
            for many in (1, 2, 250, 499):
                self.assertEqual(first_ways(rows, many), told[:many])

    def test_five_rows_of_three_hundred_without_going_through_all(self):
        chance = random.Random(25)
        for spread in (0, 5, 1000, 10 ** 15):
            rows = [drawn_row(chance, 300, spread) for _ in range(5)]
            begin = time.process_time()
            told = first_ways(rows, 500)
            counts = [ways_to(rows, number) for number in (told[0][0] - 1, told[0][0], told[-1][0], FAR)]
            self.assertLess(time.process_time() - begin, 0.5)
            self.check_kinds(told, rows)
            self.assertEqual(len(told), 500)
            self.assertEqual(told, sorted(told))
            for total, places in told:
                self.assertEqual(sum(row[place] for row, place in zip(rows, places)), total)
            self.assertEqual(len({tuple(way[1]) for way in told}), 500)
            first = sum(1 for way in told if way[0] == told[0][0])
            self.assertEqual(counts, [0, first, 500, 500])

    def test_five_rows_of_three_hundred_like_numbers(self):
        told = first_ways([[2] * 300] * 5, 500)
        self.assertEqual(told, [(10, [0, 0, 0, at // 300, at % 300]) for at in range(500)])

    def test_five_rows_whose_first_ways_take_few_places(self):
        # Only the first few numbers of each row can stand in the first 500 ways: all of those are gone through.
        chance = random.Random(26)
        rows = [sorted(drawn_row(chance, 8, 9) + [10 ** 6 + at for at in range(292)]) for _ in range(5)]
        self.assertEqual(first_ways(rows, 500), all_ways([row[:8] for row in rows])[:500])


class TestTold(Case):
    def test_every_list_told_is_the_askers_own(self):
        rows = [[1, 2], [3, 4]]
        told = first_ways(rows, 4)
        for _, places in told:
            places.append(9)
        told.clear()
        self.assertEqual(first_ways(rows, 4), [(4, [0, 0]), (5, [0, 1]), (5, [1, 0]), (6, [1, 1])])

    def test_behind_a_change_the_rows_are_ordered_anew(self):
        rows = [[1, 2], [3]]
        self.assertEqual(first_ways(rows, 1), [(4, [0, 0])])
        rows[0].insert(0, -5)
        rows.append([10, 20])
        self.check(rows)
        self.assertEqual(first_ways(rows, 1), [(8, [0, 0, 0])])

    def test_what_was_told_stays_as_it_was_behind_a_change(self):
        rows = [[1, 2], [3]]
        told = first_ways(rows, 2)
        rows[0][0] = -5
        rows.pop()
        self.assertEqual(told, [(4, [0, 0]), (5, [1, 0])])

    def test_two_rows_tell_the_order_of_sums(self):
        one, other = [-4, -4, 0, 3, 9], [-8, -1, -1, 2, 6, 6]
        told = [(total, (first, second)) for total, first, second in (sum_at(one, other, place) for place in range(30))]
        self.assertEqual([(total, tuple(places)) for total, places in first_ways([one, other], 500)], told)
        for number in range(-14, 18):
            self.assertEqual(ways_to([one, other], number), sums_to(one, other, number))


if __name__ == "__main__":
    unittest.main()
