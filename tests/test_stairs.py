import unittest
from math import comb, factorial, perm

from towerstair.errors import BadCount, BadStairs
from towerstair.stairs import counts, filled
from trying import NO_COUNTS, NO_STAIRS, all_towers, small_stairs

HUGE = 10 ** 5000


class Counts(unittest.TestCase):
    def test_as_many_as_by_trying(self):
        for stairs in small_stairs():
            with self.subTest(stairs=stairs):
                tried = [len(all_towers(stairs, many)) for many in range(len(stairs) + 1)]
                self.assertEqual(counts(stairs), tried)

    def test_ordinary_stairs(self):
        self.assertEqual(counts([1, 2, 4]), [1, 7, 10, 2])
        self.assertEqual(counts([0, 1, 1, 3]), [1, 5, 4, 0, 0])

    def test_no_columns(self):
        self.assertEqual(counts([]), [1])

    def test_heights_of_0(self):
        self.assertEqual(counts([0]), [1, 0])
        self.assertEqual(counts([0, 0, 0]), [1, 0, 0, 0])
        self.assertEqual(counts([0, 0, 5]), [1, 5, 0, 0])

    def test_equal_heights(self):
        for columns in range(8):
            for height in range(8):
                boards = [comb(columns, many) * perm(height, many) for many in range(columns + 1)]
                self.assertEqual(counts([height] * columns), boards)

    def test_very_large_heights(self):
        self.assertTrue(counts([HUGE]) == [1, HUGE])
        self.assertTrue(counts([HUGE, HUGE]) == [1, 2 * HUGE, HUGE * (HUGE - 1)])
        told = counts([1, HUGE, HUGE + 7])
        self.assertTrue(told[1] == 2 * HUGE + 8)
        self.assertTrue(told[2] == HUGE - 1 + HUGE + 6 + HUGE * (HUGE + 6))
        self.assertTrue(told[3] == (HUGE - 1) * (HUGE + 5))

    def test_many_columns(self):
        self.assertEqual(counts([0] * 20000), [1] + [0] * 20000)
        self.assertEqual(counts([1] * 20000), [1, 20000] + [0] * 19999)
        told = counts(list(range(1, 201)))
        self.assertEqual((len(told), told[1], told[200]), (201, 20100, 1))

    def test_the_list_is_of_numbers(self):
        told = counts([0, 2, 2])
        self.assertIs(type(told), list)
        self.assertEqual([type(ways) for ways in told], [int] * 4)

    def test_stairs_stay_and_the_list_is_new(self):
        stairs = [0, 2, 3, 3]
        told = counts(stairs)
        kept = list(told)
        told[0] = told[2] = 99
        told.append(5)
        self.assertEqual(stairs, [0, 2, 3, 3])
        self.assertEqual(counts(stairs), kept)
        stairs[0] = 1
        self.assertEqual(counts([0, 2, 3, 3]), kept)
        empty = []
        counts(empty).append(7)
        self.assertEqual((empty, counts(empty)), ([], [1]))

    def test_refused(self):
        for wrong in NO_STAIRS:
            with self.subTest(wrong=type(wrong)):
                self.assertRaises(BadStairs, counts, wrong)

    def test_stairs_refused_stay(self):
        wrong = [3, 1, True]
        self.assertRaises(BadStairs, counts, wrong)
        self.assertEqual(repr(wrong), "[3, 1, True]")


class Filled(unittest.TestCase):
    def test_as_many_as_by_trying_on_higher_columns(self):
        for stairs in small_stairs(3, 3):
            for more in range(4):
                with self.subTest(stairs=stairs, more=more):
                    higher = [height + more for height in stairs]
                    self.assertEqual(filled(stairs, more), len(all_towers(higher, len(stairs))))

    def test_the_product(self):
        self.assertEqual(filled([1, 2, 4], 0), 1 * 1 * 2)
        self.assertEqual(filled([1, 2, 4], 5), 6 * 6 * 7)
        self.assertEqual(filled([0, 0, 7], 3), 3 * 2 * 8)

    def test_the_sum_over_all_counts(self):
        for stairs in small_stairs(5, 5):
            columns = len(stairs)
            ways = counts(stairs)
            for more in [0, 1, 2, 3, 7, 10 ** 50]:
                total = 0
                for many in range(columns + 1):
                    others = 1
                    for at in range(columns - many):
                        others *= more - at
                    total += ways[many] * others
                with self.subTest(stairs=stairs, more=more):
                    self.assertEqual(filled(stairs, more), total)

    def test_no_columns(self):
        self.assertEqual(filled([], 0), 1)
        self.assertEqual(filled([], HUGE), 1)

    def test_0_where_the_columns_are_too_low(self):
        self.assertEqual(filled([0], 0), 0)
        self.assertEqual(filled([0, 0, 0], 0), 0)
        self.assertEqual(filled([0, 0, 0, 0], 1), 0)
        self.assertEqual(filled([1, 1, 1, 9, 9], 0), 0)
        self.assertEqual(filled([0] * 30, 29), 0)

    def test_equal_heights(self):
        self.assertEqual(filled([30] * 30, 0), factorial(30))
        self.assertEqual(filled([0] * 30, 30), factorial(30))

    def test_very_large_heights(self):
        self.assertTrue(filled([HUGE], HUGE) == 2 * HUGE)
        self.assertTrue(filled([3, HUGE], 4) == 7 * (HUGE + 3))
        self.assertTrue(filled([0, 1], HUGE) == HUGE * HUGE)

    def test_stairs_stay(self):
        stairs = [1, 2, 2]
        self.assertEqual(filled(stairs, 3), filled(stairs, 3))
        self.assertEqual(stairs, [1, 2, 2])

    def test_refused_stairs(self):
        for wrong in NO_STAIRS:
            with self.subTest(wrong=type(wrong)):
                self.assertRaises(BadStairs, filled, wrong, 0)

    def test_refused_counts(self):
        for wrong in NO_COUNTS:
            with self.subTest(wrong=type(wrong)):
                self.assertRaises(BadCount, filled, [1, 2], wrong)
                self.assertRaises(BadCount, filled, [], wrong)

    def test_stairs_are_refused_first(self):
        for wrong in NO_COUNTS:
            with self.subTest(wrong=type(wrong)):
                self.assertRaises(BadStairs, filled, [2, 1], wrong)
                self.assertRaises(BadStairs, filled, None, wrong)


if __name__ == "__main__":
    unittest.main()
