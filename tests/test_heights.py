"""Point 12, and point 1 for what it tells: heights and longest."""

import itertools
import unittest

from arrowties.errors import NoPoint, NoPoints, Round
from arrowties.heights import heights, longest
from tests.checks import short_time
from tests.families import mixed, stream
from tests.helpers import all_ties, assert_refused, leads_round, plain_rows


def path(many):
    return [(point, point + 1) for point in range(many - 1)]


def round_of(points):
    return list(zip(points, points[1:] + points[:1]))


class Case(unittest.TestCase):
    def assert_told(self, many, arrows, due_heights, due_row):
        with short_time():
            self.assertEqual(heights(many, arrows), due_heights)
            self.assertEqual(longest(many, arrows), due_row)

    def assert_both_refused(self, error, many, arrows):
        with short_time():
            assert_refused(self, error, heights, many, arrows)
            assert_refused(self, error, longest, many, arrows)

    def assert_as_all_rows_tell(self, many, arrows):
        """Without rounds: what a going over all rows tells; else refused."""
        if leads_round(many, arrows):
            self.assert_both_refused(Round, many, arrows)
            return
        rows = plain_rows(many, arrows)
        ends = [max(len(row) for row in rows if row[-1] == point) for point in range(many)]
        most = max(map(len, rows), default=0)
        row = min([row for row in rows if len(row) == most], default=[])
        self.assert_told(many, arrows, ends, row)


class Told(Case):
    def test_no_points(self):
        self.assert_told(0, [], [], [])

    def test_one_point(self):
        self.assert_told(1, [], [1], [0])

    def test_no_arrows(self):
        for many in (2, 3, 24):
            self.assert_told(many, [], [1] * many, [0])

    def test_one_arrow(self):
        self.assert_told(2, [(0, 1)], [1, 2], [0, 1])
        self.assert_told(2, [(1, 0)], [2, 1], [1, 0])
        self.assert_told(4, [(3, 1)], [1, 2, 1, 1], [3, 1])

    def test_arrows_told_twice(self):
        self.assert_told(2, [(0, 1), (0, 1)], [1, 2], [0, 1])
        self.assert_told(3, [(2, 0), (0, 1), (2, 0), (0, 1), (0, 1)], [2, 3, 1], [2, 0, 1])
        self.assert_told(2, [(1, 0)] * 100, [2, 1], [1, 0])

    def test_gaps_are_no_hindrance(self):
        self.assert_told(3, [(0, 1), (1, 2)], [1, 2, 3], [0, 1, 2])
        self.assert_told(3, [(0, 1), (1, 2), (0, 2)], [1, 2, 3], [0, 1, 2])

    def test_the_order_of_the_arrows_is_free(self):
        for arrows in itertools.permutations([(3, 1), (1, 4), (4, 0), (0, 2), (3, 0)]):
            self.assert_told(5, list(arrows), [4, 2, 5, 1, 3], [3, 1, 4, 0, 2])

    def test_rows_that_share_points(self):
        self.assert_told(5, [(0, 2), (1, 2), (2, 3), (2, 4)], [1, 1, 2, 3, 3], [0, 2, 3])
        self.assert_told(4, [(3, 1), (3, 2), (1, 0), (2, 0)], [3, 2, 2, 1], [3, 1, 0])

    def test_a_short_way_and_a_long_one(self):
        self.assert_told(4, [(0, 3), (0, 1), (1, 2), (2, 3)], [1, 2, 3, 4], [0, 1, 2, 3])
        self.assert_told(4, [(3, 0), (3, 2), (2, 1), (1, 0)], [4, 3, 2, 1], [3, 2, 1, 0])

    def test_a_longest_row_need_not_begin_with_the_least_point(self):
        self.assert_told(5, [(0, 1), (4, 2), (2, 3)], [1, 2, 2, 3, 1], [4, 2, 3])

    def test_the_least_of_several_longest_rows(self):
        self.assert_told(4, [(2, 3), (0, 1)], [1, 2, 1, 2], [0, 1])
        self.assert_told(4, [(3, 1), (2, 0)], [2, 2, 1, 1], [2, 0])
        self.assert_told(4, [(0, 3), (0, 2), (0, 1)], [1, 2, 2, 2], [0, 1])

    def test_the_least_row_is_taken_from_its_beginning(self):
        arrows = [(0, 5), (5, 3), (1, 2), (2, 3)]
        self.assert_told(6, arrows, [1, 1, 2, 3, 1, 2], [0, 5, 3])
        arrows = [(0, 4), (0, 5), (4, 3), (5, 1)]
        self.assert_told(6, arrows, [1, 3, 1, 3, 2, 2], [0, 4, 3])
        arrows = [(1, 0), (0, 5), (1, 3), (3, 2)]
        self.assert_told(6, arrows, [2, 1, 3, 2, 1, 3], [1, 0, 5])

    def test_a_lesser_point_that_ends_too_soon_is_not_taken(self):
        arrows = [(0, 1), (0, 3), (3, 2)]
        self.assert_told(4, arrows, [1, 2, 3, 2], [0, 3, 2])

    def test_as_many_points_as_can_be(self):
        rising = list(range(24))
        for arrows in (path(24), path(24)[::-1], mixed(path(24), 3)):
            self.assert_told(24, arrows, list(range(1, 25)), rising)
        falling = [(head, tail) for tail, head in path(24)]
        for arrows in (falling, falling[::-1], mixed(falling, 4)):
            self.assert_told(24, arrows, list(range(24, 0, -1)), rising[::-1])

    def test_all_pairs_of_as_many_points_as_can_be(self):
        for arrows in (all_ties(24), all_ties(24)[::-1], mixed(all_ties(24), 5)):
            self.assert_told(24, arrows, list(range(1, 25)), list(range(24)))

    def test_very_many_longest_rows(self):
        arrows = [(one, other) for one, other in all_ties(24) if other // 2 == one // 2 + 1]
        due = [point // 2 + 1 for point in range(24)]
        self.assert_told(24, arrows, due, list(range(0, 24, 2)))
        turned_about = [(head, tail) for tail, head in arrows]
        self.assert_told(24, turned_about, due[::-1], list(range(22, -1, -2)))

    def test_every_list_of_up_to_three_points(self):
        for many in range(4):
            pairs = list(itertools.product(range(many), repeat=2))
            for number in range(2 ** len(pairs)):
                arrows = [pair for at, pair in enumerate(pairs) if number >> at & 1]
                self.assert_as_all_rows_tell(many, arrows)

    def test_every_way_between_four_points(self):
        for ways in itertools.product((1, -1, 0), repeat=6):
            arrows = [pair[::way] for pair, way in zip(all_ties(4), ways) if way]
            self.assert_as_all_rows_tell(4, arrows)

    def test_many_lists_with_points_in_any_order_and_arrows_told_twice(self):
        for seed in range(400):
            many = 4 + seed % 5
            numbers = stream(seed)
            names = mixed(range(many), seed)
            part = 20 + seed % 60
            arrows = [(names[one], names[other]) for one, other in all_ties(many)
                      if next(numbers) % 100 < part]
            self.assert_as_all_rows_tell(many, mixed(arrows + arrows[::3], seed))

    def test_many_lists_that_may_lead_round(self):
        for seed in range(300):
            many = 3 + seed % 6
            numbers = stream(seed)
            arrows = [(next(numbers) % many, next(numbers) % many)
                      for _ in range(seed % (many + 3))]
            self.assert_as_all_rows_tell(many, arrows)


class Refused(Case):
    def test_wrong_numbers_of_points(self):
        for many in (-1, 25, -2, -24, 26, 100):
            self.assert_both_refused(NoPoints, many, [])

    def test_wrong_numbers_of_points_come_ahead_of_all(self):
        for many in (-1, 25):
            for arrows in ([(0, 1)], [(0, 0)], [(0, 1), (1, 0)], [(-1, 0)], [(0, 30)],
                           [(30, 0), (1, 1)], [(1, 1), (-5, 0)]):
                self.assert_both_refused(NoPoints, many, arrows)

    def test_numbers_that_are_no_points(self):
        for many in (0, 1, 2, 5, 24):
            for wrong in (-1, -many - 1, many, many + 1, 100):
                self.assert_both_refused(NoPoint, many, [(wrong, wrong)])
                for right in (0, many - 1):
                    self.assert_both_refused(NoPoint, many, [(wrong, right)])
                    self.assert_both_refused(NoPoint, many, [(right, wrong)])

    def test_numbers_below_0_that_a_list_would_take(self):
        for wrong in (-1, -2, -3):
            self.assert_both_refused(NoPoint, 3, [(wrong, 1)])
            self.assert_both_refused(NoPoint, 3, [(1, wrong)])

    def test_a_wrong_number_behind_right_arrows(self):
        for wrong in ((0, 3), (3, 0), (-1, 0), (0, -1)):
            self.assert_both_refused(NoPoint, 3, [(0, 1), (1, 2), wrong])
            self.assert_both_refused(NoPoint, 3, [wrong, (0, 1), (1, 2)])

    def test_wrong_numbers_come_ahead_of_rounds(self):
        for around in ([(0, 0)], [(0, 1), (1, 0)], [(0, 1), (1, 2), (2, 0)]):
            for wrong in ((0, 3), (3, 0), (-1, 0), (0, -1), (3, 3), (-1, -1)):
                self.assert_both_refused(NoPoint, 3, around + [wrong])
                self.assert_both_refused(NoPoint, 3, [wrong] + around)
        self.assert_both_refused(NoPoint, 0, [(0, 0)])
        self.assert_both_refused(NoPoint, 1, [(1, 1)])

    def test_an_arrow_of_a_point_to_itself(self):
        for many in (1, 2, 5, 24):
            for point in (0, many // 2, many - 1):
                self.assert_both_refused(Round, many, [(point, point)])
                self.assert_both_refused(Round, many, path(many) + [(point, point)])

    def test_longer_rounds(self):
        for many in (2, 3, 4, 7, 24):
            for size in range(2, many + 1):
                around = round_of(mixed(range(many), size)[:size])
                self.assert_both_refused(Round, many, around)
                self.assert_both_refused(Round, many, around[::-1])

    def test_a_round_beside_rows(self):
        self.assert_both_refused(Round, 6, [(0, 1), (1, 2), (4, 5), (5, 4)])
        self.assert_both_refused(Round, 24, path(21) + round_of([21, 22, 23]))

    def test_a_round_at_either_end_of_a_row(self):
        self.assert_both_refused(Round, 5, [(0, 1), (1, 2), (2, 3), (3, 4), (4, 3)])
        self.assert_both_refused(Round, 5, [(0, 1), (1, 2), (2, 3), (3, 4), (1, 0)])
        self.assert_both_refused(Round, 24, path(24) + [(23, 22)])
        self.assert_both_refused(Round, 24, path(24) + [(23, 0)])
        self.assert_both_refused(Round, 24, all_ties(24) + [(23, 0)])

    def test_a_round_that_no_row_leads_to_or_from(self):
        self.assert_both_refused(Round, 4, [(1, 2), (2, 3), (3, 1)])
        self.assert_both_refused(Round, 3, [(2, 2)])


class AskersOwn(Case):
    def test_the_list_stays_as_it_was(self):
        for many, arrows in ((4, [(3, 1), (1, 0), (3, 1)]), (2, []), (3, [(2, 1), (1, 2)]),
                             (3, [(2, 1), (5, 2)]), (25, [(1, 0), (0, 1)])):
            for call in (heights, longest):
                kept = list(arrows)
                try:
                    call(many, arrows)
                except ValueError:
                    pass
                self.assertEqual(arrows, kept)

    def test_a_told_list_is_changed_and_the_same_is_told_again(self):
        arrows = [(3, 1), (1, 0), (0, 2)]
        for call, due in ((heights, [3, 2, 4, 1]), (longest, [3, 1, 0, 2])):
            told = call(4, arrows)
            self.assertIs(type(told), list)
            told[0] = 9
            told.append(7)
            self.assertEqual(call(4, arrows), due)
        longest(0, []).append(3)
        heights(0, []).append(3)
        self.assert_told(0, [], [], [])

    def test_the_list_of_arrows_is_changed_behind_the_call(self):
        arrows = [(3, 1), (1, 0)]
        told = heights(4, arrows), longest(4, arrows)
        arrows.append((0, 2))
        arrows[0] = (1, 3)
        self.assertEqual(told, ([3, 2, 1, 1], [3, 1, 0]))
        self.assert_told(4, arrows, [2, 1, 3, 2], [1, 0, 2])
        arrows.clear()
        self.assert_told(4, arrows, [1, 1, 1, 1], [0])

    def test_refused_ones_leave_nothing_behind(self):
        for many, arrows in ((2, [(0, 1), (1, 0)]), (2, [(0, 2)]), (25, []), (2, [(1, 1)])):
            with self.assertRaises(ValueError):
                heights(many, arrows)
            with self.assertRaises(ValueError):
                longest(many, arrows)
            self.assert_told(3, [(2, 0)], [2, 1, 1], [2, 0])


if __name__ == "__main__":
    unittest.main()
