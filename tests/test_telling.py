import unittest

from towerstair.answers import Alike, Most, Unlike
from towerstair.errors import BadStairs
from towerstair.stairs import counts, filled
from towerstair.telling import alike, fullest, plain
from trying import NO_STAIRS, first_difference, is_way, small_stairs

HUGE = 10 ** 5000

LARGE = [
    [HUGE] * 5,
    [0, 1, 1, HUGE, HUGE + 9],
    [10 ** 60] * 300,
    [0] * 500 + [3] * 500 + [10 ** 40 + column for column in range(500)],
    [column // 2 for column in range(3000)],
    list(range(1, 2001)),
    [7] * 20000,
]


def halves(steps):
    """Two lists of numbers with the same sums of all powers below this one."""
    even = [number for number in range(2 ** steps) if bin(number).count("1") % 2 == 0]
    return even, [number for number in range(2 ** steps) if number not in even]


def stairs_of(factors):
    return [factor + column for column, factor in enumerate(sorted(factors))]


class Fullest(unittest.TestCase):
    def assert_fullest(self, stairs):
        most = fullest(stairs)
        self.assertIs(type(most), Most)
        self.assertTrue(is_way(stairs, len(most.towers), most.towers))
        self.assertIs(type(most.rows), int)
        self.assertTrue(most.rows >= 0)
        higher = sum(height > most.rows for height in stairs)
        self.assertTrue(most.rows + higher == len(most.towers))
        self.assertIs(most.shows(stairs), True)
        return most

    def test_as_many_as_there_is_a_way_for(self):
        for stairs in small_stairs(5, 5):
            with self.subTest(stairs=stairs):
                most = self.assert_fullest(stairs)
                some = [many for many, ways in enumerate(counts(stairs)) if ways]
                self.assertEqual(len(most.towers), some[-1])

    def test_no_columns(self):
        most = self.assert_fullest([])
        self.assertEqual((most.towers, most.rows), ([], 0))

    def test_one_column(self):
        self.assertEqual(fullest([0]).towers, [])
        for height in [1, 2, 7, HUGE]:
            most = self.assert_fullest([height])
            self.assertEqual(len(most.towers), 1)

    def test_columns_of_height_0(self):
        for many in [1, 2, 3, 1000]:
            most = self.assert_fullest([0] * many)
            self.assertEqual((most.towers, most.rows), ([], 0))
        self.assertEqual([cell[0] for cell in self.assert_fullest([0, 0, 1]).towers], [2])

    def test_low_columns(self):
        for stairs, many in [([1] * 9, 1), ([3] * 9, 3), ([0, 1, 1, 2, 2, 2, 3, 3], 3), ([1, 2, 2, 4], 3)]:
            self.assertEqual(len(self.assert_fullest(stairs).towers), many)

    def test_high_columns(self):
        for stairs, many in [([9] * 4, 4), ([4] * 4, 4), ([1, 2, 3, 4], 4), ([1, 1, 9, 9], 3)]:
            self.assertEqual(len(self.assert_fullest(stairs).towers), many)

    def test_large_stairs(self):
        for stairs in LARGE:
            self.assert_fullest(stairs)

    def test_stairs_stay_and_towers_are_new(self):
        stairs = [0, 1, 2, 2, 3]
        most = fullest(stairs)
        towers, rows = list(most.towers), most.rows
        most.towers.append((9, 9))
        most.rows = 7
        again = fullest(stairs)
        self.assertEqual((again.towers, again.rows, stairs), (towers, rows, [0, 1, 2, 2, 3]))
        stairs[4] = 9
        self.assertEqual((again.towers, again.rows), (towers, rows))
        fullest([]).towers.append(1)
        self.assertEqual(fullest([]).towers, [])

    def test_refused(self):
        for wrong in NO_STAIRS:
            with self.subTest(wrong=type(wrong)):
                self.assertRaises(BadStairs, fullest, wrong)

    def test_stairs_refused_stay(self):
        wrong = [1, 0]
        self.assertRaises(BadStairs, fullest, wrong)
        self.assertEqual(wrong, [1, 0])


class Alikes(unittest.TestCase):
    def assert_unlike(self, one, other, many):
        for first, second in [(one, other), (other, one)]:
            told = alike(first, second)
            self.assertIs(type(told), Unlike)
            self.assertIs(type(told.many), int)
            self.assertEqual(told.many, many)
            self.assertIs(told.shows(first, second), True)
            self.assertIs(Alike().shows(first, second), False)

    def assert_alike(self, one, other):
        for first, second in [(one, other), (other, one)]:
            told = alike(first, second)
            self.assertIs(type(told), Alike)
            self.assertIs(told.shows(first, second), True)
            for many in [0, 1, 2, len(first), len(second)]:
                self.assertIs(Unlike(many).shows(first, second), False)

    def test_as_by_the_counts(self):
        every = [(stairs, counts(stairs)) for stairs in small_stairs(4, 5)]
        for at, (one, ways) in enumerate(every):
            for other, others in every[at:]:
                with self.subTest(one=one, other=other):
                    many = first_difference(ways, others)
                    if many is None:
                        self.assert_alike(one, other)
                    else:
                        self.assert_unlike(one, other, many)

    def test_no_columns(self):
        self.assert_alike([], [])
        self.assert_alike([], [0])
        self.assert_alike([], [0, 0, 0])
        self.assert_unlike([], [1], 1)
        self.assert_unlike([], [0, 0, HUGE], 1)

    def test_unlike_counts_of_columns(self):
        self.assert_alike([0, 0, 2, 3], [2, 3])
        self.assert_alike([2], [1, 1])
        self.assert_alike([1, 1, 1], [3])
        self.assert_alike([2, 2, 2], [3, 3])
        self.assert_unlike([2, 2, 2], [1, 2, 3], 2)
        self.assert_unlike([3], [1, 2], 2)
        self.assert_unlike([2], [1, 1, 1], 1)
        self.assert_unlike([2] * 3, [1, 5], 2)

    def test_as_many_cells_but_later_unlike(self):
        self.assertEqual(counts([0, 5, 7]), [1, 12, 30, 0])
        self.assertEqual(counts([1, 3, 8]), [1, 12, 30, 12])
        self.assert_unlike([0, 5, 7], [1, 3, 8], 3)
        for many in range(1, 8):
            one, other = halves(many)
            self.assert_unlike(stairs_of(one), stairs_of(other), many)
            self.assertEqual(first_difference(counts(stairs_of(one)), counts(stairs_of(other))), many)
            self.assert_unlike([0] + stairs_of(one), stairs_of(other), many)

    def test_equal_factors_in_another_order(self):
        one = [5, 5, 5, 6, 9, 9]
        other = [3, 4, 6, 7, 9, 10]
        self.assertEqual(filled(one, 10), filled(other, 10))
        self.assert_alike(one, other)
        self.assert_alike([5, 5, 5], [3, 5, 7])
        self.assert_alike([HUGE] * 3, [HUGE - 2, HUGE, HUGE + 2])
        self.assert_unlike([HUGE] * 3, [HUGE - 2, HUGE - 1, HUGE + 3], 2)
        self.assert_unlike([HUGE] * 3, [HUGE, HUGE, HUGE + 1], 1)

    def test_large_stairs(self):
        for stairs in LARGE:
            self.assertIs(type(alike(stairs, list(stairs))), Alike)
            self.assertIs(type(alike([0] + stairs, stairs)), Alike)
            higher = stairs[:-1] + [stairs[-1] + 1]
            self.assertEqual(alike(stairs, higher).many, 1)

    def test_large_stairs_that_differ_late(self):
        one, other = halves(11)
        self.assertEqual(alike(stairs_of(one), stairs_of(other)).many, 11)
        one, other = stairs_of([10 ** 60 * part for part in one]), stairs_of([10 ** 60 * part for part in other])
        self.assertEqual(alike(one, other).many, 11)

    def test_told_again_and_new(self):
        one, other = [1, 3], [2, 2]
        told = alike(one, other)
        self.assertIsNot(alike(one, other), told)
        unlike = alike([1], [2])
        unlike.many = 5
        self.assertEqual(alike([1], [2]).many, 1)
        self.assertIsNot(alike([], []), alike([], []))
        self.assertEqual((one, other), ([1, 3], [2, 2]))

    def test_stairs_stay(self):
        one, other = [1, 1, 4], [0, 2]
        alike(one, other)
        alike(one, one)
        alike(one, [0, 0] + one)
        self.assertEqual((one, other), ([1, 1, 4], [0, 2]))

    def test_refused(self):
        for wrong in NO_STAIRS:
            with self.subTest(wrong=type(wrong)):
                self.assertRaises(BadStairs, alike, wrong, [1, 2])
                self.assertRaises(BadStairs, alike, [1, 2], wrong)
                self.assertRaises(BadStairs, alike, [], wrong)
                self.assertRaises(BadStairs, alike, wrong, None)
        wrong = [2, 1]
        self.assertRaises(BadStairs, alike, wrong, wrong)
        self.assertEqual(wrong, [2, 1])


class Plain(unittest.TestCase):
    def assert_plain(self, stairs):
        told = plain(stairs)
        self.assertIs(type(told), list)
        self.assertTrue(all(type(height) is int for height in told))
        self.assertTrue(all(height > 0 for height in told[:1]))
        self.assertTrue(all(low < high for low, high in zip(told, told[1:])))
        self.assertIs(type(alike(told, stairs)), Alike)
        return told

    def test_as_by_the_counts(self):
        for stairs in small_stairs(5, 5):
            with self.subTest(stairs=stairs):
                told = self.assert_plain(stairs)
                self.assertIsNone(first_difference(counts(told), counts(stairs)))

    def test_the_same_for_all_that_are_alike(self):
        told = {}
        for stairs in small_stairs(5, 5):
            ways = counts(stairs)
            while ways[-1] == 0:
                ways.pop()
            told.setdefault(tuple(ways), []).append(plain(stairs))
        self.assertTrue(max(len(several) for several in told.values()) > 5)
        for several in told.values():
            self.assertEqual(several, [several[0]] * len(several))
        firsts = [tuple(several[0]) for several in told.values()]
        self.assertEqual(len(set(firsts)), len(firsts))

    def test_plain_ones_stay_as_they_are(self):
        for stairs in [[], [1], [HUGE], [1, 2, 3], [2, 5, 6, 9], [3, HUGE], list(range(4, 900, 3))]:
            told = plain(stairs)
            self.assertTrue(told == stairs)
            self.assertIsNot(told, stairs)

    def test_ordinary(self):
        self.assertEqual(plain([1, 1]), [2])
        self.assertEqual(plain([1, 1, 1]), [3])
        self.assertEqual(plain([2, 2, 2]), [2, 4])
        self.assertEqual(plain([3, 3, 3]), [1, 3, 5])
        self.assertEqual(plain([1, 2, 2, 4]), [2, 3, 4])

    def test_edges(self):
        self.assertEqual(plain([]), [])
        self.assertEqual(plain([0]), [])
        self.assertEqual(plain([0] * 2000), [])
        self.assertEqual(plain([0, 0, 1]), [1])
        self.assertEqual(plain([0, 0, 4, 7]), [4, 7])
        self.assertTrue(plain([0, HUGE]) == [HUGE])

    def test_equal_columns(self):
        self.assertEqual(plain([1] * 3000), [3000])
        self.assertTrue(plain([HUGE] * 3) == [HUGE - 2, HUGE, HUGE + 2])
        self.assertEqual(plain([4, 4, 4, 4]), [1, 3, 5, 7])

    def test_large_stairs(self):
        for stairs in LARGE:
            told = self.assert_plain(stairs)
            self.assertTrue(sum(told) == sum(stairs))
            self.assertTrue(plain(told) == told)

    def test_stairs_stay_and_the_list_is_new(self):
        stairs = [0, 2, 2, 2]
        plain(stairs).append(99)
        plain(stairs)[0] = 77
        self.assertEqual((stairs, plain(stairs)), ([0, 2, 2, 2], [2, 4]))
        plain([]).append(5)
        self.assertEqual(plain([]), [])

    def test_refused(self):
        for wrong in NO_STAIRS:
            with self.subTest(wrong=type(wrong)):
                self.assertRaises(BadStairs, plain, wrong)


if __name__ == "__main__":
    unittest.main()
