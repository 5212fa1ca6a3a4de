"""Points 1 to 4: nets, what they tell, opposite and lessened nets."""

import unittest

from arrowties.errors import NoPoint, NoPoints, NoTie, TwiceTold
from arrowties.nets import Net, lessened, opposite
from tests.helpers import all_ties, assert_refused, big_ties, net_of, small_ties


class Making(unittest.TestCase):
    """Point 2."""

    def test_no_points(self):
        net = Net(0, [])
        self.assertEqual(net.many, 0)
        self.assertEqual(net.pairs(), [])

    def test_one_point(self):
        net = Net(1, [])
        self.assertEqual(net.many, 1)
        self.assertEqual(net.pairs(), [])
        self.assertEqual(net.near(0), [])

    def test_as_many_points_as_can_be(self):
        self.assertEqual(Net(24, []).many, 24)
        net = Net(24, [(23, 0), (22, 23)])
        self.assertEqual(net.many, 24)
        self.assertEqual(net.pairs(), [(0, 23), (22, 23)])

    def test_all_ties_of_as_many_points_as_can_be(self):
        self.assertEqual(Net(24, all_ties(24)).pairs(), all_ties(24))

    def test_ties_in_any_order_and_either_way_about(self):
        for ties in ([(0, 1), (0, 3), (2, 3)], [(3, 2), (1, 0), (3, 0)], [(0, 3), (3, 2), (0, 1)]):
            with self.subTest(ties=ties):
                self.assertEqual(Net(4, ties).pairs(), [(0, 1), (0, 3), (2, 3)])

    def test_wrong_numbers_of_points(self):
        for many in (-1, 25, -2, -24, 26, 100):
            assert_refused(self, NoPoints, Net, many, [])

    def test_wrong_number_of_points_comes_ahead_of_wrong_ties(self):
        for many in (-1, 25):
            for ties in ([(0, 0)], [(0, 30)], [(-1, 0)], [(0, 1), (1, 0)], [(0, 1)]):
                assert_refused(self, NoPoints, Net, many, ties)

    def test_ties_with_a_number_that_is_no_point(self):
        for many in (0, 1, 2, 5, 24):
            for wrong in (-1, -many - 1, many, many + 1):
                for right in (0, many - 1):
                    assert_refused(self, NoTie, Net, many, [(wrong, right)])
                    assert_refused(self, NoTie, Net, many, [(right, wrong)])
                assert_refused(self, NoTie, Net, many, [(wrong, wrong)])

    def test_ties_of_a_point_with_itself(self):
        for many in (1, 2, 5, 24):
            for point in (0, many // 2, many - 1):
                assert_refused(self, NoTie, Net, many, [(point, point)])

    def test_a_wrong_tie_behind_right_ones(self):
        assert_refused(self, NoTie, Net, 3, [(0, 1), (1, 2), (2, 2)])
        assert_refused(self, NoTie, Net, 3, [(0, 1), (1, 2), (2, 3)])
        assert_refused(self, NoTie, Net, 3, [(0, 1), (1, 2), (2, -1)])

    def test_a_tie_told_again(self):
        assert_refused(self, TwiceTold, Net, 2, [(0, 1), (0, 1)])
        assert_refused(self, TwiceTold, Net, 2, [(1, 0), (1, 0)])
        assert_refused(self, TwiceTold, Net, 4, [(2, 3), (0, 1), (1, 2), (2, 3)])

    def test_a_tie_told_the_other_way_about(self):
        assert_refused(self, TwiceTold, Net, 2, [(0, 1), (1, 0)])
        assert_refused(self, TwiceTold, Net, 2, [(1, 0), (0, 1)])
        assert_refused(self, TwiceTold, Net, 4, [(2, 3), (0, 1), (1, 2), (3, 2)])

    def test_a_tie_that_can_be_none_told_again_is_no_tie(self):
        assert_refused(self, NoTie, Net, 3, [(1, 1), (1, 1)])
        assert_refused(self, NoTie, Net, 3, [(0, 3), (3, 0)])

    def test_the_first_wrong_tie_tells_which_refusal_comes(self):
        for wrong in ((2, 2), (0, 3), (3, 0), (-1, 0), (0, -1)):
            assert_refused(self, TwiceTold, Net, 3, [(0, 1), (0, 1), wrong])
            assert_refused(self, TwiceTold, Net, 3, [(0, 1), (1, 0), wrong])
            assert_refused(self, NoTie, Net, 3, [(0, 1), wrong, (0, 1)])
            assert_refused(self, NoTie, Net, 3, [(0, 1), wrong, (1, 0)])
            assert_refused(self, NoTie, Net, 3, [wrong, (0, 1), (1, 0)])

    def test_the_list_of_ties_stays_as_it_was(self):
        ties = [(3, 2), (1, 0), (3, 0)]
        net = Net(4, ties)
        net.pairs()
        net.near(0)
        net.tied(0, 1)
        self.assertEqual(ties, [(3, 2), (1, 0), (3, 0)])

    def test_a_refused_list_of_ties_stays_as_it_was(self):
        for ties in ([(3, 2), (1, 0), (2, 2)], [(3, 2), (1, 0), (0, 1)]):
            kept = list(ties)
            with self.assertRaises(ValueError):
                Net(4, ties)
            self.assertEqual(ties, kept)

    def test_the_net_stays_as_it_was_where_the_list_is_changed(self):
        ties = [(0, 1), (2, 1)]
        net = Net(4, ties)
        ties.append((0, 3))
        ties[0] = (0, 2)
        self.assertEqual(net.pairs(), [(0, 1), (1, 2)])
        ties.clear()
        self.assertEqual(net.pairs(), [(0, 1), (1, 2)])
        self.assertEqual(net.near(1), [0, 2])
        self.assertIs(net.tied(0, 1), True)
        self.assertIs(net.tied(0, 3), False)

    def test_nets_share_nothing(self):
        ties = [(0, 1)]
        first = Net(3, ties)
        ties.append((1, 2))
        second = Net(3, ties)
        self.assertEqual(first.pairs(), [(0, 1)])
        self.assertEqual(second.pairs(), [(0, 1), (1, 2)])


class Telling(unittest.TestCase):
    """Point 3."""

    def setUp(self):
        self.net = Net(5, [(4, 0), (2, 1), (0, 2), (1, 0)])

    def test_tied(self):
        tied = {(0, 1), (0, 2), (0, 4), (1, 2)}
        for one in range(5):
            for other in range(5):
                held = (one, other) in tied or (other, one) in tied
                self.assertIs(self.net.tied(one, other), held, (one, other))

    def test_a_point_is_not_tied_to_itself(self):
        full = Net(24, all_ties(24))
        for point in range(24):
            self.assertIs(full.tied(point, point), False)

    def test_near_is_rising(self):
        self.assertEqual([self.net.near(one) for one in range(5)],
                         [[1, 2, 4], [0, 2], [0, 1], [], [0]])

    def test_pairs_are_rising_with_the_lesser_point_first(self):
        self.assertEqual(self.net.pairs(), [(0, 1), (0, 2), (0, 4), (1, 2)])

    def test_a_net_without_ties(self):
        net = Net(3, [])
        self.assertEqual(net.pairs(), [])
        for one in range(3):
            self.assertEqual(net.near(one), [])
            for other in range(3):
                self.assertIs(net.tied(one, other), False)

    def test_many_nets_with_their_ties_turned_about(self):
        for many, ties in [*small_ties(), *big_ties()]:
            handed = [tie[::-1] if at % 3 else tie for at, tie in enumerate(ties)][::-1]
            net = Net(many, handed)
            self.assertEqual(net.pairs(), sorted(ties))
            for one in range(many):
                near = [other for other in range(many)
                        if (one, other) in ties or (other, one) in ties]
                self.assertEqual(net.near(one), near)
                self.assertEqual([other for other in range(many) if net.tied(one, other)], near)

    def test_numbers_that_are_no_points(self):
        full = [Net(many, all_ties(many)) for many in (0, 1, 2, 5, 24)]
        for net in [self.net, *full]:
            for wrong in (-1, -net.many, -net.many - 1, net.many, net.many + 1):
                if 0 <= wrong < net.many:
                    continue
                assert_refused(self, NoPoint, net.near, wrong)
                assert_refused(self, NoPoint, net.tied, wrong, wrong)
                for right in range(net.many):
                    assert_refused(self, NoPoint, net.tied, wrong, right)
                    assert_refused(self, NoPoint, net.tied, right, wrong)

    def test_a_told_list_is_the_askers_own(self):
        near = self.net.near(0)
        near.append(3)
        near[0] = 7
        self.assertEqual(self.net.near(0), [1, 2, 4])
        pairs = self.net.pairs()
        pairs.append((3, 4))
        pairs[0] = (0, 3)
        self.assertEqual(self.net.pairs(), [(0, 1), (0, 2), (0, 4), (1, 2)])
        self.assertIs(self.net.tied(0, 3), False)
        self.assertIs(self.net.tied(0, 1), True)

    def test_a_told_list_stays_as_it_was_when_more_is_asked(self):
        near, pairs = self.net.near(0), self.net.pairs()
        self.net.near(0).clear()
        self.net.pairs().clear()
        self.net.near(1)
        opposite(self.net)
        lessened(self.net, 0)
        self.assertEqual(near, [1, 2, 4])
        self.assertEqual(pairs, [(0, 1), (0, 2), (0, 4), (1, 2)])


class Opposite(unittest.TestCase):
    """Point 4: the opposite net."""

    def test_no_points_and_one_point(self):
        for many in (0, 1):
            net = opposite(Net(many, []))
            self.assertIs(type(net), Net)
            self.assertEqual(net.many, many)
            self.assertEqual(net.pairs(), [])

    def test_by_hand(self):
        net = opposite(Net(4, [(1, 0), (2, 1), (3, 2)]))
        self.assertEqual(net.many, 4)
        self.assertEqual(net.pairs(), [(0, 2), (0, 3), (1, 3)])

    def test_all_ties_and_none(self):
        for many in (2, 5, 24):
            self.assertEqual(opposite(Net(many, [])).pairs(), all_ties(many))
            self.assertEqual(opposite(Net(many, all_ties(many))).pairs(), [])

    def test_many_nets(self):
        for many, ties in [*small_ties(), *big_ties()]:
            other = opposite(net_of(many, ties))
            self.assertEqual(other.many, many)
            self.assertEqual(other.pairs(), [tie for tie in all_ties(many) if tie not in ties])

    def test_the_given_net_stays_as_it_was(self):
        net = Net(4, [(1, 0), (2, 1)])
        opposite(net)
        self.assertEqual(net.many, 4)
        self.assertEqual(net.pairs(), [(0, 1), (1, 2)])
        self.assertEqual([net.near(one) for one in range(4)], [[1], [0, 2], [1], []])


class Lessened(unittest.TestCase):
    """Point 4: the net without a point."""

    def setUp(self):
        self.net = Net(5, [(0, 1), (1, 2), (2, 3), (3, 4), (4, 0), (4, 1)])

    def test_the_only_point(self):
        net = lessened(Net(1, []), 0)
        self.assertIs(type(net), Net)
        self.assertEqual(net.many, 0)
        self.assertEqual(net.pairs(), [])

    def test_the_first_point(self):
        net = lessened(self.net, 0)
        self.assertEqual(net.many, 4)
        self.assertEqual(net.pairs(), [(0, 1), (0, 3), (1, 2), (2, 3)])

    def test_a_middle_point(self):
        net = lessened(self.net, 2)
        self.assertEqual(net.many, 4)
        self.assertEqual(net.pairs(), [(0, 1), (0, 3), (1, 3), (2, 3)])

    def test_the_last_point(self):
        net = lessened(self.net, 4)
        self.assertEqual(net.many, 4)
        self.assertEqual(net.pairs(), [(0, 1), (1, 2), (2, 3)])

    def test_many_nets(self):
        for many, ties in [*small_ties(), *big_ties()]:
            for point in range(many):
                less = lessened(net_of(many, ties), point)
                self.assertEqual(less.many, many - 1)
                left = [(one - (one > point), other - (other > point))
                        for one, other in ties if point not in (one, other)]
                self.assertEqual(less.pairs(), left)

    def test_numbers_that_are_no_points(self):
        for net in (Net(0, []), Net(1, []), self.net, Net(24, [])):
            for wrong in (-1, -net.many - 1, net.many, net.many + 1):
                assert_refused(self, NoPoint, lessened, net, wrong)
        assert_refused(self, NoPoint, lessened, self.net, -5)

    def test_the_given_net_stays_as_it_was(self):
        before = self.net.pairs()
        near = [self.net.near(one) for one in range(5)]
        for point in range(5):
            lessened(self.net, point)
        self.assertEqual(self.net.many, 5)
        self.assertEqual(self.net.pairs(), before)
        self.assertEqual([self.net.near(one) for one in range(5)], near)


if __name__ == "__main__":
    unittest.main()
