import unittest

from towerstair.errors import BadCount, BadNumber, BadStairs, BadTowers
from towerstair.stairs import counts
from towerstair.ways import number_of, way_of
from trying import NO_COUNTS, NO_STAIRS, all_towers, is_way, small_stairs

HUGE = 10 ** 5000

LARGE = [
    [10 ** 60] * 40,
    [10 ** 30 + 7 * column for column in range(50)],
    [0, 0, 1, 2, 2, 5] + [10 ** 40] * 20,
    [column + 1 for column in range(60)],
    [column // 3 for column in range(60)],
]

NO_TOWERS_OF_1_2_2_4 = [
    None, 0, True, "", "01", b"", (), ((0, 0),), {}, {0: 0}, set(), {(0, 0)}, iter([]), object(), list,
    [None], [0], [True], ["00"], [b"00"], [[0, 0]], [{0: 0, 1: 1}], [()], [(0,)], [(0, 0, 0)],
    [(None, 0)], [(0, None)], [("0", 0)], [(0, "0")], [((0,), 0)], [(0, [0])], [([], 0)], [(0j, 0)],
    [(True, 0)], [(1, True)], [(False, 0)], [(0, False)],
    [(-1, 0)], [(0, -1)], [(4, 0)], [(0, 1)], [(1, 2)], [(3, 4)], [(HUGE, 0)], [(0, HUGE)], [(3, -HUGE)],
    [(1, 0), (0, 0)], [(1, 1), (0, 0)], [(3, 3), (2, 1)], [(0, 0), (3, 3), (2, 1)],
    [(1, 0), (1, 1)], [(1, 0), (1, 0)],
    [(0, 0), (1, 0)], [(1, 1), (2, 1)], [(0, 0), (1, 1), (3, 0)],
    [(0, 0), None], [(0, 0), (1, 2)], [(0, 0), (1, True)],
]


class SmallStairs(unittest.TestCase):
    def test_each_way_has_one_number(self):
        for stairs in small_stairs():
            for many, ways in enumerate(counts(stairs)):
                with self.subTest(stairs=stairs, many=many):
                    told = [way_of(stairs, many, number) for number in range(ways)]
                    self.assertTrue(all(is_way(stairs, many, towers) for towers in told))
                    self.assertEqual(sorted(told), sorted(all_towers(stairs, many)))
                    self.assertEqual([number_of(stairs, towers) for towers in told], list(range(ways)))

    def test_tried_towers_come_again(self):
        for stairs in [[1, 2, 2, 4], [0, 3, 5, 5, 6], [2, 2, 2], [0, 0, 1]]:
            for many in range(len(stairs) + 1):
                for towers in all_towers(stairs, many):
                    number = number_of(stairs, towers)
                    self.assertIs(type(number), int)
                    self.assertEqual(way_of(stairs, many, number), towers)


class LargeStairs(unittest.TestCase):
    def test_first_last_and_between(self):
        for stairs in LARGE:
            ways = counts(stairs)
            for many in [0, 1, 2, len(stairs) // 3, len(stairs) - 1, len(stairs)]:
                last = ways[many] - 1
                numbers = [0, 1, last // 3, last // 2, last - 1, last]
                for number in [number for number in numbers if 0 <= number <= last]:
                    with self.subTest(columns=len(stairs), many=many, number=number):
                        towers = way_of(stairs, many, number)
                        self.assertTrue(is_way(stairs, many, towers))
                        self.assertEqual(number_of(stairs, towers), number)
                self.assertRaises(BadNumber, way_of, stairs, many, last + 1)

    def test_towers_made_otherwise(self):
        stairs = [10 ** 60] * 40
        for towers in [
            [(column, column) for column in range(40)],
            [(column, 39 - column) for column in range(40)],
            [(column, 10 ** 60 - 1 - column) for column in range(1, 40, 2)],
            [(column, (column * 7919 + 13) * 10 ** 50) for column in range(0, 40, 3)],
            [(39, 10 ** 60 - 1)],
        ]:
            number = number_of(stairs, towers)
            self.assertTrue(0 <= number < counts(stairs)[len(towers)])
            self.assertEqual(way_of(stairs, len(towers), number), towers)

    def test_heights_of_thousands_of_figures(self):
        stairs = [1, HUGE, HUGE, HUGE + 3]
        for towers in [[], [(3, HUGE + 2)], [(0, 0), (1, HUGE - 1), (2, 1), (3, HUGE + 2)]]:
            self.assertTrue(way_of(stairs, len(towers), number_of(stairs, towers)) == towers)
        last = counts(stairs)[4] - 1
        self.assertTrue(number_of(stairs, way_of(stairs, 4, last)) == last)

    def test_few_towers_on_many_columns(self):
        stairs = [5] * 3000
        last = counts([5] * 3000)[2] - 1
        self.assertEqual(number_of(stairs, way_of(stairs, 2, last)), last)


class Edges(unittest.TestCase):
    def test_no_columns(self):
        self.assertEqual(way_of([], 0, 0), [])
        self.assertEqual(number_of([], []), 0)
        self.assertRaises(BadCount, way_of, [], 1, 0)
        self.assertRaises(BadNumber, way_of, [], 0, 1)
        self.assertRaises(BadTowers, number_of, [], [(0, 0)])

    def test_no_towers(self):
        for stairs in [[0], [0, 0, 3], [2, 2], [HUGE]]:
            self.assertEqual(way_of(stairs, 0, 0), [])
            self.assertEqual(number_of(stairs, []), 0)
            self.assertRaises(BadNumber, way_of, stairs, 0, 1)

    def test_a_tower_in_each_column(self):
        self.assertEqual(way_of([1, 2, 3], 3, 0), [(0, 0), (1, 1), (2, 2)])
        self.assertEqual(number_of([1, 2, 3], [(0, 0), (1, 1), (2, 2)]), 0)
        self.assertRaises(BadNumber, way_of, [1, 2, 3], 3, 1)

    def test_counts_without_a_way(self):
        for stairs, many in [([0], 1), ([0, 0], 2), ([0, 1], 2), ([1, 1, 5], 3)]:
            self.assertRaises(BadNumber, way_of, stairs, many, 0)
            self.assertRaises(BadNumber, way_of, stairs, many, 1)


class Kept(unittest.TestCase):
    def test_told_again_the_same_and_new(self):
        stairs = [1, 3, 3, 6]
        for many, ways in enumerate(counts(stairs)):
            for number in range(ways):
                towers = way_of(stairs, many, number)
                again = list(towers)
                towers.append((7, 7))
                towers[0] = None
                self.assertEqual(way_of(stairs, many, number), again)
                self.assertEqual(number_of(stairs, again), number)
                self.assertEqual(number_of(stairs, again), number)
        self.assertEqual(stairs, [1, 3, 3, 6])

    def test_alike_for_the_same_stairs_after_others(self):
        first = [way_of([2, 3, 4], 2, number) for number in range(counts([2, 3, 4])[2])]
        stairs = [2, 3, 4]
        way_of(stairs, 2, 5)
        stairs[0] = 0
        way_of(stairs, 2, 5)
        number_of(stairs, [(1, 0), (2, 2)])
        self.assertEqual([way_of([2, 3, 4], 2, number) for number in range(len(first))], first)

    def test_towers_handed_in_stay(self):
        stairs, towers = [1, 2, 2, 4], [(1, 1), (2, 0), (3, 3)]
        number = number_of(stairs, towers)
        self.assertEqual((stairs, towers), ([1, 2, 2, 4], [(1, 1), (2, 0), (3, 3)]))
        towers.pop()
        self.assertEqual(way_of(stairs, 3, number), [(1, 1), (2, 0), (3, 3)])


class Refused(unittest.TestCase):
    def test_stairs(self):
        for wrong in NO_STAIRS:
            with self.subTest(wrong=type(wrong)):
                self.assertRaises(BadStairs, way_of, wrong, 0, 0)
                self.assertRaises(BadStairs, number_of, wrong, [])

    def test_counts(self):
        for wrong in NO_COUNTS + [4, HUGE]:
            with self.subTest(wrong=type(wrong)):
                self.assertRaises(BadCount, way_of, [1, 2, 3], wrong, 0)

    def test_numbers(self):
        for wrong in NO_COUNTS + [7, 8, HUGE]:
            with self.subTest(wrong=type(wrong)):
                self.assertRaises(BadNumber, way_of, [2, 2, 3], 1, wrong)
        self.assertTrue(is_way([2, 2, 3], 1, way_of([2, 2, 3], 1, 6)))

    def test_towers(self):
        for at, wrong in enumerate(NO_TOWERS_OF_1_2_2_4):
            with self.subTest(at=at):
                self.assertRaises(BadTowers, number_of, [1, 2, 2, 4], wrong)

    def test_towers_refused_stay(self):
        wrong = [(1, 1), (0, 0)]
        self.assertRaises(BadTowers, number_of, [1, 2], wrong)
        self.assertEqual(wrong, [(1, 1), (0, 0)])

    def test_of_two_wrong_things_the_first(self):
        self.assertRaises(BadStairs, way_of, [2, 1], -1, -1)
        self.assertRaises(BadStairs, way_of, [True], 2, 0)
        self.assertRaises(BadStairs, way_of, [2, 1], 0, 7)
        self.assertRaises(BadCount, way_of, [1, 2], 3, -1)
        self.assertRaises(BadCount, way_of, [1, 2], None, None)
        self.assertRaises(BadCount, way_of, [1, 2], True, HUGE)
        self.assertRaises(BadStairs, number_of, [2, 1], [(0, 5)])
        self.assertRaises(BadStairs, number_of, (), None)


if __name__ == "__main__":
    unittest.main()
