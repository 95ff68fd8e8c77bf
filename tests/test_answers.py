import unittest

from towerstair.answers import Alike, Answer, Most, Unlike
from towerstair.stairs import counts
from trying import all_towers, first_difference, small_stairs

HUGE = 10 ** 5000

# Towers and rows of [1, 2, 2, 4] that are as point 5 tells are
# [(0, 0), (1, 1), (3, 2)] and 2. These are not, with whatever rows.
WRONG_TOWERS = {
    "none": [],
    "left out": [(0, 0), (1, 1)],
    "another left out": [(1, 1), (3, 2)],
    "put in": [(0, 0), (1, 1), (2, 1), (3, 2)],
    "put in beyond": [(0, 0), (1, 1), (3, 2), (4, 3)],
    "moved into a row of another": [(0, 0), (1, 0), (3, 2)],
    "moved over the top": [(0, 0), (1, 2), (3, 1)],
    "moved far over the top": [(0, 0), (1, 1), (3, HUGE)],
    "moved below": [(0, 0), (1, -1), (3, 2)],
    "moved out to the right": [(0, 0), (1, 1), (4, 2)],
    "moved far out to the right": [(0, 0), (1, 1), (HUGE, 2)],
    "moved out to the left": [(-1, 0), (1, 1), (3, 2)],
    "far out to the left": [(-HUGE, 0), (1, 1), (3, 2)],
    "moved into a column of another": [(0, 0), (3, 1), (3, 2)],
    "twice": [(0, 0), (1, 1), (1, 1)],
    "once more": [(0, 0), (1, 1), (3, 2), (3, 2)],
    "exchanged": [(1, 1), (0, 0), (3, 2)],
    "falling": [(3, 2), (1, 1), (0, 0)],
    "exchanged in the pairs": [(0, 0), (1, 1), (2, 3)],
}


def is_most(stairs, towers, rows):
    """Whether it is as point 5 tells, for towers that are towers of the stairs."""
    higher = sum(height > rows for height in stairs)
    return rows >= 0 and rows + higher == len(towers)


class MostShows(unittest.TestCase):
    def test_all_towers_with_all_rows(self):
        for stairs in small_stairs(4, 3):
            for many in range(len(stairs) + 1):
                for towers in all_towers(stairs, many):
                    for rows in range(-2, 7):
                        told = Most(towers, rows).shows(stairs)
                        self.assertIs(told, is_most(stairs, towers, rows), (stairs, towers, rows))

    def test_never_shown_where_more_can_be_set(self):
        for stairs in small_stairs(4, 4):
            ways = counts(stairs)
            for many in range(len(stairs)):
                for towers in all_towers(stairs, many)[:5]:
                    shown = [rows for rows in range(-1, 7) if Most(towers, rows).shows(stairs)]
                    self.assertFalse(shown and ways[many + 1], (stairs, towers, shown))

    def test_ordinary(self):
        self.assertIs(Most([(0, 0), (1, 1), (3, 2)], 2).shows([1, 2, 2, 4]), True)
        self.assertIs(Most([(0, 0), (2, 1), (3, 3)], 2).shows([1, 2, 2, 4]), True)
        self.assertIs(Most([(1, 0), (2, 1), (3, 3)], 2).shows([1, 2, 2, 4]), True)

    def test_no_columns(self):
        self.assertIs(Most([], 0).shows([]), True)
        for towers, rows in [([], 1), ([], -1), ([], HUGE), ([(0, 0)], 1), ([(0, 0)], 0), ([(-1, -1)], 1)]:
            self.assertIs(Most(towers, rows).shows([]), False)

    def test_heights_of_0(self):
        self.assertIs(Most([], 0).shows([0]), True)
        self.assertIs(Most([], 0).shows([0, 0, 0]), True)
        self.assertIs(Most([(2, 0)], 0).shows([0, 0, 1]), True)
        self.assertIs(Most([(2, 0)], 1).shows([0, 0, 1]), True)
        for towers, rows in [([], 1), ([], -1), ([(0, 0)], 1), ([(0, 0)], 0), ([(0, -1)], 1)]:
            self.assertIs(Most(towers, rows).shows([0, 0]), False)

    def test_rows_above_all_columns(self):
        self.assertIs(Most([(0, 0), (1, 1)], 2).shows([1, 2]), True)
        self.assertIs(Most([(0, 0), (1, 1)], 3).shows([1, 2]), False)
        self.assertIs(Most([(0, 0), (1, 1), (2, 2)], 3).shows([1, 3, 3, 3]), True)

    def test_very_high_columns(self):
        stairs = [1, 1, HUGE, HUGE + 1]
        towers = [(1, 0), (2, HUGE - 1), (3, HUGE)]
        self.assertIs(Most(towers, 1).shows(stairs), True)
        for rows in [-HUGE, -1, 0, 2, 3, HUGE - 1, HUGE, HUGE + 1, HUGE + 2]:
            self.assertIs(Most(towers, rows).shows(stairs), False)
        self.assertIs(Most([(1, 0), (2, HUGE), (3, 1)], 1).shows(stairs), False)

    def test_wrong_towers(self):
        for kind, towers in WRONG_TOWERS.items():
            for rows in range(-1, 7):
                with self.subTest(kind=kind, rows=rows):
                    self.assertIs(Most(towers, rows).shows([1, 2, 2, 4]), False)

    def test_wrong_rows(self):
        for rows in [-HUGE, -2, -1, 0, 1, 3, 4, 5, HUGE]:
            self.assertIs(Most([(0, 0), (1, 1), (3, 2)], rows).shows([1, 2, 2, 4]), False)

    def test_rows_below_0_that_would_add_up(self):
        self.assertIs(Most([(0, 0)], -1).shows([1, 1]), False)
        self.assertIs(Most([(1, 0)], -1).shows([0, 1]), False)
        self.assertIs(Most([], -2).shows([0, 0]), False)

    def test_of_other_stairs(self):
        most = Most([(0, 0), (1, 1), (3, 2)], 2)
        for stairs in [[], [1], [1, 2, 2], [1, 2, 2, 2], [1, 2, 3, 4], [0, 2, 2, 4], [1, 2, 2, 4, 4]]:
            self.assertIs(most.shows(stairs), False)
        self.assertIs(most.shows([1, 2, 2, 3]), True)


class MostFields(unittest.TestCase):
    def test_as_handed_in(self):
        most = Most([(0, 0), (7, 9)], 5)
        self.assertEqual((most.towers, most.rows), ([(0, 0), (7, 9)], 5))
        self.assertEqual(vars(Most([], 0)), {"towers": [], "rows": 0})

    def test_the_list_is_copied(self):
        towers = [(0, 0), (1, 1)]
        most = Most(towers, 0)
        towers.pop()
        self.assertEqual(most.towers, [(0, 0), (1, 1)])
        self.assertIs(most.shows([1, 2]), True)
        most.towers.clear()
        self.assertEqual(towers, [(0, 0)])

    def test_two_answers_share_nothing(self):
        towers = [(0, 0)]
        first, second = Most(towers, 1), Most(towers, 1)
        first.towers.append((1, 1))
        self.assertEqual((second.towers, Most(towers, 1).towers), ([(0, 0)], [(0, 0)]))

    def test_shown_by_the_fields_as_they_stand(self):
        stairs = [1, 2, 2, 4]
        most = Most([(0, 0), (1, 1), (3, 2)], 2)
        most.rows = 1
        self.assertIs(most.shows(stairs), False)
        most.rows = 2
        self.assertIs(most.shows(stairs), True)
        most.towers.append((4, 3))
        self.assertIs(most.shows(stairs), False)
        most.towers.pop()
        self.assertIs(most.shows(stairs), True)
        most.towers[2] = (3, 1)
        self.assertIs(most.shows(stairs), False)
        most.towers = [(0, 0), (2, 1), (3, 3)]
        self.assertIs(most.shows(stairs), True)
        for rows in [-2, -1, 0, 1, 3, 4, HUGE]:
            most.rows = rows
            self.assertIs(most.shows(stairs), False)

    def test_wrong_fields_put_in_later(self):
        for towers in WRONG_TOWERS.values():
            most = Most([(0, 0), (1, 1), (3, 2)], 2)
            most.towers = towers
            self.assertIs(most.shows([1, 2, 2, 4]), False)

    def test_made_wrong_and_righted(self):
        most = Most([(9, 9)], -1)
        self.assertIs(most.shows([1, 2]), False)
        most.towers[:] = [(0, 0), (1, 1)]
        most.rows = 0
        self.assertIs(most.shows([1, 2]), True)

    def test_showing_changes_nothing(self):
        stairs, towers = [1, 2, 2, 4], [(0, 0), (1, 1), (3, 2)]
        most = Most(towers, 2)
        self.assertIs(most.shows(stairs), most.shows(stairs))
        self.assertEqual((stairs, towers), ([1, 2, 2, 4], [(0, 0), (1, 1), (3, 2)]))
        self.assertEqual((most.towers, most.rows), (towers, 2))


class TwoStairs(unittest.TestCase):
    def test_all_small_pairs_either_way_round(self):
        every = [(stairs, counts(stairs)) for stairs in small_stairs(4, 4)]
        for one, ways in every:
            for other, others in every:
                many = first_difference(ways, others)
                alike = Alike().shows(one, other)
                shown = [many for many in range(-1, 7) if Unlike(many).shows(one, other)]
                self.assertIs(alike, many is None, (one, other))
                self.assertEqual(shown, [] if many is None else [many], (one, other))

    def test_truths(self):
        for one, other in [([1, 1], [0, 2]), ([2], [0, 1, 1]), ([], [])]:
            for told in [Alike(), Unlike(1), Unlike(2)]:
                self.assertIs(type(told.shows(one, other)), bool)

    def test_unlike_by_wrong_counts(self):
        one, other = [0, 5, 7], [1, 3, 8]
        for many in [-HUGE, -3, -1, 0, 1, 2, 4, 5, HUGE]:
            self.assertIs(Unlike(many).shows(one, other), False)
            self.assertIs(Unlike(many).shows(other, one), False)
            self.assertIs(Unlike(many).shows(one, list(one)), False)
        self.assertIs(Unlike(3).shows(one, other), True)
        self.assertIs(Unlike(3).shows(other, one), True)

    def test_the_field_as_it_stands(self):
        told = Unlike(1)
        self.assertEqual(vars(told), {"many": 1})
        self.assertIs(told.shows([0, 5, 7], [1, 3, 8]), False)
        told.many = 3
        self.assertIs(told.shows([0, 5, 7], [1, 3, 8]), True)
        for many in [-3, 0, 2, 4, HUGE]:
            told.many = many
            self.assertIs(told.shows([0, 5, 7], [1, 3, 8]), False)

    def test_no_number_is_no_count(self):
        for many in [None, True, "1"]:
            self.assertIs(Unlike(many).shows([1], [1]), False)
            self.assertIs(Unlike(many).shows([1], [2]), False)

    def test_alike_has_no_field(self):
        self.assertEqual(vars(Alike()), {})

    def test_very_high_columns(self):
        self.assertIs(Alike().shows([HUGE, HUGE], [0, HUGE, HUGE]), True)
        self.assertIs(Alike().shows([HUGE, HUGE], [0, HUGE - 1, HUGE]), False)
        self.assertIs(Alike().shows([HUGE, HUGE], [HUGE - 1, HUGE + 1]), True)
        self.assertIs(Unlike(2).shows([HUGE, HUGE], [HUGE - 2, HUGE + 2]), True)
        self.assertIs(Unlike(1).shows([HUGE, HUGE], [HUGE, HUGE + 1]), True)

    def test_showing_changes_nothing(self):
        one, other = [0, 2], [1, 1, 4]
        for told in [Alike(), Unlike(1)]:
            before = dict(vars(told))
            told.shows(one, other)
            self.assertEqual((one, other, vars(told)), ([0, 2], [1, 1, 4], before))


class Kinds(unittest.TestCase):
    def test_all_are_answers(self):
        for told in [Most([], 0), Alike(), Unlike(1)]:
            self.assertIsInstance(told, Answer)


if __name__ == "__main__":
    unittest.main()
