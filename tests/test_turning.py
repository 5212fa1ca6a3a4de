"""Points 9 to 11, and point 1 for what they tell: gaps, fits and turned."""

import itertools
import unittest

from arrowties.forcing import forced
from arrowties.nets import Net, opposite
from arrowties.turning import fits, gaps, turned
from tests.checks import assert_turned, short_time
from tests.families import (
    mixed, mixed_ties, renamed, stream, turnable_ties, unturnable_ties,
)
from tests.helpers import (
    all_ties, every_turning, net_of, plain_fits, plain_gaps, ring, small_ties, ties_by_number,
)


class Gaps(unittest.TestCase):
    """Point 9."""

    def test_no_pairs(self):
        self.assertEqual(gaps([]), [])

    def test_one_pair(self):
        self.assertEqual(gaps([(0, 1)]), [])
        self.assertEqual(gaps([(7, -7)]), [])

    def test_a_gap(self):
        self.assertEqual(gaps([(0, 1), (1, 2)]), [(0, 1, 2)])
        self.assertEqual(gaps([(1, 2), (0, 1)]), [(0, 1, 2)])
        self.assertEqual(gaps([(2, 1), (1, 0)]), [(2, 1, 0)])

    def test_a_gap_that_is_closed(self):
        self.assertEqual(gaps([(0, 1), (1, 2), (0, 2)]), [])
        self.assertEqual(gaps([(0, 2), (1, 2), (0, 1)]), [])

    def test_a_gap_is_not_closed_from_the_other_end(self):
        self.assertEqual(gaps([(0, 1), (1, 2), (2, 0)]), [(0, 1, 2), (1, 2, 0), (2, 0, 1)])

    def test_pairs_that_only_meet(self):
        self.assertEqual(gaps([(0, 1), (2, 1)]), [])
        self.assertEqual(gaps([(1, 0), (1, 2)]), [])
        self.assertEqual(gaps([(0, 1), (2, 3)]), [])

    def test_triples_rise_whatever_the_order_of_the_pairs(self):
        pairs = [(0, 1), (1, 2), (2, 3), (1, 3), (3, 0)]
        due = [(0, 1, 2), (0, 1, 3), (1, 3, 0), (2, 3, 0), (3, 0, 1)]
        for handed in itertools.permutations(pairs):
            self.assertEqual(gaps(list(handed)), due)

    def test_triples_with_the_same_first_and_last_number(self):
        pairs = [(0, 2), (2, 9), (0, 1), (1, 9), (0, 10), (10, 9), (0, -3), (-3, 9)]
        self.assertEqual(gaps(pairs), [(0, -3, 9), (0, 1, 9), (0, 2, 9), (0, 10, 9)])

    def test_a_pair_told_twice_tells_each_triple_once(self):
        self.assertEqual(gaps([(0, 1), (1, 2), (0, 1)]), [(0, 1, 2)])
        self.assertEqual(gaps([(1, 2), (0, 1), (1, 2), (1, 2), (0, 1)]), [(0, 1, 2)])
        self.assertEqual(gaps([(0, 1), (0, 2), (1, 2), (0, 2)]), [])

    def test_a_pair_of_one_number_with_itself(self):
        self.assertEqual(gaps([(3, 3)]), [])
        self.assertEqual(gaps([(3, 3), (3, 4)]), [])
        self.assertEqual(gaps([(2, 3), (3, 3)]), [])
        self.assertEqual(gaps([(2, 3), (3, 3), (3, 4)]), [(2, 3, 4)])

    def test_forth_and_back(self):
        self.assertEqual(gaps([(0, 1), (1, 0)]), [(0, 1, 0), (1, 0, 1)])
        self.assertEqual(gaps([(5, 2), (2, 5)]), [(2, 5, 2), (5, 2, 5)])
        self.assertEqual(gaps([(0, 1), (1, 0), (0, 0)]), [(1, 0, 1)])
        self.assertEqual(gaps([(0, 1), (1, 0), (1, 1), (0, 0)]), [])

    def test_numbers_far_apart_and_below_0(self):
        far = 10 ** 30
        self.assertEqual(gaps([(far, -far), (-far, 0)]), [(far, -far, 0)])
        self.assertEqual(gaps([(-1, -2), (-2, -1)]), [(-2, -1, -2), (-1, -2, -1)])
        self.assertEqual(gaps([(-5, far), (far, 24), (7, -5)]), [(-5, far, 24), (7, -5, far)])
        self.assertEqual(gaps([(-1, 3), (3, 100), (-1, 100)]), [])
        self.assertEqual(gaps([(far, far + 1), (far + 1, far + 2)]), [(far, far + 1, far + 2)])

    def test_each_list_of_three_numbers_against_all_pairs_of_pairs(self):
        pairs = list(itertools.product((-1, 0, 2), repeat=2))
        for number in range(2 ** 9):
            handed = [pair for at, pair in enumerate(pairs) if number >> at & 1]
            self.assertEqual(gaps(handed[::-1]), plain_gaps(handed))

    def test_many_lists_against_all_pairs_of_pairs(self):
        for seed in range(300):
            numbers = stream(seed)
            wide = 2 + seed % 9
            handed = [(next(numbers) % wide - 2, next(numbers) % wide - 2)
                      for _ in range(seed % 29)]
            self.assertEqual(gaps(handed), plain_gaps(handed))

    def test_many_pairs(self):
        pairs = [(one, other) for one, other in all_ties(90) if (one, other) != (3, 80)]
        with short_time():
            self.assertEqual(gaps(pairs), [(3, middle, 80) for middle in range(4, 80)])

    def test_the_list_stays_as_it_was(self):
        for handed in ([(1, 2), (0, 1), (1, 2)], [(5, 5), (5, -1), (-1, 5)], []):
            kept = list(handed)
            gaps(handed)
            self.assertEqual(handed, kept)

    def test_what_is_told_is_the_askers_own(self):
        handed = [(1, 2), (0, 1)]
        told = gaps(handed)
        self.assertIs(type(told), list)
        self.assertIs(type(told[0]), tuple)
        handed.append((0, 2))
        self.assertEqual(told, [(0, 1, 2)])
        self.assertEqual(gaps(handed), [])
        handed.pop()
        told.clear()
        self.assertEqual(gaps(handed), [(0, 1, 2)])
        empty = gaps([])
        empty.append((1, 1, 1))
        self.assertEqual(gaps([]), [])


class Fits(unittest.TestCase):
    """Point 10."""

    def test_no_points_and_no_ties(self):
        for many in (0, 1, 2, 24):
            net = Net(many, [])
            self.assertIs(fits(net, []), True)
            for pair in ((0, 0), (0, 1), (1, 0), (-1, 0), (24, 25), (-1, -1)):
                self.assertIs(fits(net, [pair]), False)

    def test_one_tie_either_way(self):
        for handed in ([(0, 1)], [(1, 0)]):
            net = Net(2, handed)
            self.assertIs(fits(net, [(0, 1)]), True)
            self.assertIs(fits(net, [(1, 0)]), True)
            self.assertIs(fits(net, []), False)

    def test_the_order_of_the_arrows_is_free(self):
        net = Net(4, [(0, 1), (1, 2), (0, 2), (2, 3)])
        for arrows in itertools.permutations([(0, 1), (1, 2), (0, 2), (3, 2)]):
            self.assertIs(fits(net, list(arrows)), True)
        for arrows in itertools.permutations([(0, 1), (1, 2), (0, 2), (2, 3)]):
            self.assertIs(fits(net, list(arrows)), False)
        for arrows in itertools.permutations([(0, 1), (1, 2), (0, 2)]):
            self.assertIs(fits(Net(3, all_ties(3)), list(arrows)), True)

    def test_an_arrow_turned_so_that_a_gap_comes(self):
        net = Net(3, [(0, 1), (1, 2)])
        self.assertIs(fits(net, [(0, 1), (2, 1)]), True)
        self.assertIs(fits(net, [(1, 0), (1, 2)]), True)
        self.assertIs(fits(net, [(0, 1), (1, 2)]), False)
        self.assertIs(fits(net, [(2, 1), (1, 0)]), False)

    def test_an_arrow_turned_so_that_arrows_lead_round(self):
        net = Net(3, all_ties(3))
        self.assertIs(fits(net, [(0, 1), (1, 2), (0, 2)]), True)
        self.assertIs(fits(net, [(0, 1), (1, 2), (2, 0)]), False)
        self.assertIs(fits(net, [(1, 0), (2, 1), (0, 2)]), False)

    def test_one_left_out(self):
        net = Net(4, [(0, 1), (2, 3)])
        self.assertIs(fits(net, [(0, 1), (3, 2)]), True)
        self.assertIs(fits(net, [(0, 1)]), False)
        self.assertIs(fits(net, [(3, 2)]), False)
        self.assertIs(fits(net, []), False)

    def test_one_told_twice(self):
        net = Net(4, [(0, 1), (2, 3)])
        self.assertIs(fits(net, [(0, 1), (2, 3), (0, 1)]), False)
        self.assertIs(fits(net, [(0, 1), (2, 3), (2, 3)]), False)
        self.assertIs(fits(net, [(0, 1), (0, 1)]), False)
        self.assertIs(fits(net, [(0, 1), (2, 3), (0, 1), (2, 3)]), False)

    def test_one_told_both_ways(self):
        net = Net(4, [(0, 1), (2, 3)])
        self.assertIs(fits(net, [(0, 1), (1, 0), (2, 3)]), False)
        self.assertIs(fits(net, [(0, 1), (1, 0)]), False)
        # With these there are no gaps, so it is the tie itself that tells.
        self.assertEqual(gaps([(0, 1), (1, 0), (0, 0), (1, 1)]), [])
        self.assertIs(fits(Net(2, [(0, 1)]), [(0, 1), (1, 0), (0, 0), (1, 1)]), False)

    def test_a_pair_more_that_is_no_tie(self):
        net = Net(5, [(0, 1), (2, 3)])
        for pair in ((0, 3), (4, 1), (0, 4), (2, 1), (0, 0), (1, 1), (4, 4), (2, 4)):
            self.assertEqual(gaps([(0, 1), (2, 3), pair]), [])
            self.assertIs(fits(net, [(0, 1), (2, 3), pair]), False)
            self.assertIs(fits(net, [pair, (0, 1), (2, 3)]), False)

    def test_a_pair_more_with_numbers_that_are_no_points(self):
        net = Net(5, [(0, 1), (2, 3)])
        for pair in ((-1, -2), (5, 6), (0, 5), (5, 1), (-1, 3), (2, -1), (24, 25),
                     (-5, 1), (-5, -4), (0, -4), (7, 7), (-1, -1), (10 ** 20, 1)):
            self.assertEqual(gaps([(0, 1), (2, 3), pair]), [])
            self.assertIs(fits(net, [(0, 1), (2, 3), pair]), False)
            self.assertIs(fits(net, [pair, (0, 1), (2, 3)]), False)

    def test_such_a_pair_in_the_place_of_an_arrow(self):
        net = Net(5, [(0, 1), (2, 3)])
        for pair in ((0, 3), (4, 1), (0, 0), (-5, 1), (-5, -4), (0, -4), (5, 6), (24, 0)):
            self.assertIs(fits(net, [pair, (2, 3)]), False)
            self.assertIs(fits(net, [(2, 3), pair]), False)
            self.assertIs(fits(net, [pair]), False)

    def test_several_lists_one_after_another(self):
        net = Net(3, [(0, 1), (1, 2)])
        asked = [([(0, 1), (2, 1)], True), ([(0, 1), (1, 2)], False), ([(1, 0), (1, 2)], True),
                 ([], False), ([(0, 1), (2, 1), (2, 1)], False), ([(2, 1), (0, 1)], True),
                 ([(0, 1), (2, 1), (0, 2)], False), ([(1, 2), (1, 0)], True)]
        for handed, due in asked + asked[::-1] + asked:
            self.assertIs(fits(net, handed), due)

    def test_one_list_of_several_nets(self):
        arrows = [(0, 1), (2, 1)]
        for many, ties, due in ((3, [(0, 1), (1, 2)], True), (3, all_ties(3), False),
                                (4, [(2, 1), (1, 0)], True), (4, [(0, 1), (2, 3)], False),
                                (3, [(0, 1)], False), (3, [(0, 1), (0, 2)], False)):
            self.assertIs(fits(net_of(many, ties), arrows), due)

    def test_a_changed_list_is_looked_at_anew(self):
        net = Net(3, [(0, 1), (1, 2)])
        arrows = [(0, 1), (2, 1)]
        self.assertIs(fits(net, arrows), True)
        arrows[1] = (1, 2)
        self.assertIs(fits(net, arrows), False)
        arrows[0] = (1, 0)
        self.assertIs(fits(net, arrows), True)
        arrows.append((0, 2))
        self.assertIs(fits(net, arrows), False)

    def test_the_list_stays_as_it_was(self):
        net = Net(3, [(0, 1), (1, 2)])
        for handed in ([(2, 1), (0, 1)], [(1, 2), (0, 1)], [(5, 1), (2, 1), (2, 1)], []):
            kept = list(handed)
            fits(net, handed)
            self.assertEqual(handed, kept)
        self.assertEqual(net.pairs(), [(0, 1), (1, 2)])

    def test_each_short_list_of_small_nets(self):
        pairs = list(itertools.product(range(-1, 4), repeat=2))
        lists = [list(handed) for size in range(3)
                 for handed in itertools.product(pairs, repeat=size)]
        lists += [list(handed) for handed in itertools.combinations(pairs, 3)]
        for many in range(4):
            for number in range(2 ** (many * (many - 1) // 2)):
                ties = ties_by_number(many, number)
                net = net_of(many, ties)
                for handed in lists:
                    self.assertIs(fits(net, handed), plain_fits(ties, handed), (ties, handed))

    def test_one_thing_changed_at_what_fits(self):
        for many, ties in turnable_ties():
            net = net_of(many, ties)
            arrows = turned(net)[1]
            self.assertIs(fits(net, mixed(arrows, many)), True)
            for at in range(0, len(arrows), 1 + len(arrows) // 5):
                one, other = arrows[at]
                for changed in (
                    arrows[:at] + arrows[at + 1:],
                    arrows + [(one, other)],
                    arrows + [(other, one)],
                    arrows + [(one, one)],
                    arrows + [(one, many)],
                    arrows[:at] + [(one, other - many)] + arrows[at + 1:],
                    arrows[:at] + [(one, one)] + arrows[at + 1:],
                ):
                    self.assertIs(fits(net, changed), False)
                changed = arrows[:at] + [(other, one)] + arrows[at + 1:]
                self.assertIs(fits(net, changed), plain_fits(ties, changed))


class Turned(unittest.TestCase):
    """Point 11."""

    def assert_told(self, many, ties, due):
        self.assertIs(assert_turned(self, net_of(many, ties), ties), due, (many, ties))

    def test_no_points_and_no_ties(self):
        for many in (0, 1, 2, 24):
            self.assertEqual(turned(Net(many, [])), (True, []))

    def test_one_tie(self):
        done, arrows = turned(Net(2, [(1, 0)]))
        self.assertIs(done, True)
        self.assertIn(arrows, ([(0, 1)], [(1, 0)]))

    def test_nets_that_can_be_turned(self):
        for many, ties in turnable_ties():
            self.assert_told(many, ties, True)

    def test_nets_that_can_be_turned_with_points_and_ties_in_any_order(self):
        for seed in range(4):
            for many, ties in turnable_ties():
                self.assert_told(many, renamed(many, ties, seed), True)

    def test_nets_that_cannot_be_turned(self):
        for many, ties in unturnable_ties():
            self.assert_told(many, ties, False)

    def test_nets_that_cannot_be_turned_with_points_and_ties_in_any_order(self):
        for seed in range(4):
            for many, ties in unturnable_ties():
                self.assert_told(many, renamed(many, ties, seed), False)

    def test_the_row_of_a_ring(self):
        net = Net(5, ring(5))
        done, row = turned(net)
        self.assertIs(done, False)
        self.assertEqual(row[-1], row[0][::-1])
        for one, other in zip(row, row[1:]):
            self.assertIn(other, forced(net, one))

    def test_a_ring_with_a_chord(self):
        self.assert_told(5, ring(5) + [(0, 2)], True)
        self.assert_told(7, ring(7) + [(0, 2)], True)
        self.assert_told(7, ring(7) + [(0, 3)], False)

    def test_three_tied_points_with_an_end_each(self):
        self.assert_told(6, all_ties(3) + [(0, 3), (1, 4)], True)
        self.assert_told(6, all_ties(3) + [(0, 3), (1, 4), (2, 5)], False)

    def test_every_net_of_up_to_five_points_and_every_turning(self):
        for many in range(6):
            for number in range(2 ** (many * (many - 1) // 2)):
                ties = ties_by_number(many, number)
                net = net_of(many, ties)
                fitting = False
                for arrows in every_turning(ties):
                    due = not plain_gaps(arrows)
                    self.assertIs(fits(net, arrows), due)
                    fitting = fitting or due
                self.assertIs(assert_turned(self, net, ties), fitting, ties)

    def test_nets_of_six_points_and_every_turning(self):
        for number in range(5, 2 ** 15, 97):
            ties = ties_by_number(6, number)
            if len(ties) <= 7:
                due = any(not plain_gaps(arrows) for arrows in every_turning(ties))
                self.assert_told(6, ties, due)

    def test_one_of_the_two_for_every_net_of_six_points(self):
        for number in range(0, 2 ** 15, 3):
            ties = ties_by_number(6, number)
            assert_turned(self, net_of(6, ties), ties)

    def test_one_of_the_two_for_larger_nets(self):
        for many, ties in mixed_ties():
            assert_turned(self, net_of(many, ties), ties)
            other = opposite(net_of(many, ties))
            assert_turned(self, other, other.pairs())

    def test_short_time_with_all_pairs_of_as_many_points_as_can_be(self):
        with short_time(20):
            done, arrows = turned(Net(24, all_ties(24)))
        self.assertIs(done, True)
        self.assertTrue(plain_fits(all_ties(24), arrows))

    def test_the_net_stays_as_it_was(self):
        for many, ties in small_ties():
            net = net_of(many, ties)
            near = [net.near(point) for point in range(many)]
            turned(net)
            self.assertEqual(net.many, many)
            self.assertEqual(net.pairs(), sorted(ties))
            self.assertEqual([net.near(point) for point in range(many)], near)

    def test_what_is_told_is_the_askers_own(self):
        for ties in (ring(4), ring(5), []):
            handed = list(ties)
            net = Net(5, handed)
            first, second = turned(net), turned(net)
            kept = (second[0], list(second[1]))
            first[1].insert(0, (9, 9))
            first[1].pop()
            first[1].append((0, 0))
            self.assertEqual(second, kept)
            self.assertEqual(turned(net), kept)
            handed.append((1, 3))
            handed[0] = (2, 4)
            self.assertEqual(second, kept)
            self.assertEqual(turned(net), kept)


if __name__ == "__main__":
    unittest.main()
