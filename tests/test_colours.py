"""Points 13 and 14, and point 1 for what they tell: coloured, and nets with a point less."""

import unittest

from arrowties.colours import coloured
from arrowties.errors import Clash
from arrowties.forcing import forced, led
from arrowties.nets import Net, lessened
from arrowties.turning import turned
from tests.checks import assert_coloured, assert_turned, short_time
from tests.families import (
    mixed_ties, parts_tied, renamed, tree, turnable_ties, two_sides, unturnable_ties,
)
from tests.helpers import (
    all_ties, assert_refused, net_of, plain_arrows, plain_forced, plain_led, plain_steps, ring,
    ties_by_number,
)


class Coloured(unittest.TestCase):
    """Point 13."""

    def assert_so_many(self, many, ties, due):
        self.assertEqual(assert_coloured(self, net_of(many, ties), ties), due, (many, ties))

    def test_no_points(self):
        self.assertEqual(coloured(Net(0, [])), ([], []))

    def test_no_ties(self):
        for many in (1, 2, 7, 24):
            self.assert_so_many(many, [], 1)
            self.assertEqual(coloured(Net(many, []))[0], [1] * many)

    def test_all_pairs_tied(self):
        for many in (2, 3, 5, 24):
            self.assert_so_many(many, all_ties(many), many)
            colours, points = coloured(Net(many, all_ties(many)))
            self.assertEqual(sorted(colours), list(range(1, many + 1)))
            self.assertEqual(sorted(points), list(range(many)))

    def test_two_colours(self):
        for many in (2, 3, 6, 24):
            for branches in (1, 2, 23):
                self.assert_so_many(many, tree(many, branches), 2)
        for many in (4, 6, 8, 24):
            self.assert_so_many(many, ring(many), 2)
            self.assert_so_many(many, two_sides(many, many, 100), 2)

    def test_as_many_colours_as_parts(self):
        for parts in (2, 3, 4, 6, 12):
            for many in (parts, 13, 24):
                self.assert_so_many(many, parts_tied(many, parts), min(parts, many))

    def test_three_tied_points_with_an_end(self):
        self.assert_so_many(4, all_ties(3) + [(0, 3)], 3)
        self.assert_so_many(24, [(21, 22), (22, 23), (21, 23), (3, 22)], 3)

    def test_nets_that_can_be_turned(self):
        for many, ties in turnable_ties():
            assert_coloured(self, net_of(many, ties), ties)

    def test_nets_that_can_be_turned_with_points_and_ties_in_any_order(self):
        for seed in range(3):
            for many, ties in turnable_ties():
                handed = renamed(many, ties, seed)
                assert_coloured(self, net_of(many, handed), handed)

    def test_nets_that_cannot_be_turned(self):
        for many, ties in unturnable_ties():
            assert_refused(self, Clash, coloured, net_of(many, ties))
            assert_refused(self, Clash, coloured, net_of(many, renamed(many, ties, many)))

    def test_every_net_of_up_to_five_points(self):
        for many in range(6):
            for number in range(2 ** (many * (many - 1) // 2)):
                self.assert_as_turned_tells(many, ties_by_number(many, number))

    def test_nets_of_which_nothing_is_known(self):
        for many, ties in mixed_ties():
            self.assert_as_turned_tells(many, ties)

    def assert_as_turned_tells(self, many, ties):
        net = net_of(many, ties)
        if assert_turned(self, net, ties):
            assert_coloured(self, net, ties)
        else:
            assert_refused(self, Clash, coloured, net)

    def test_short_time_with_all_pairs_of_as_many_points_as_can_be(self):
        with short_time(20):
            coloured(Net(24, all_ties(24)))

    def test_the_net_stays_as_it_was(self):
        for ties in (ring(6), ring(5), all_ties(4)):
            net = Net(6, ties)
            kept = net.pairs(), [net.near(point) for point in range(6)]
            try:
                coloured(net)
            except Clash:
                pass
            self.assertEqual((net.pairs(), [net.near(point) for point in range(6)]), kept)
            self.assertEqual(net.many, 6)

    def test_what_is_told_is_the_askers_own(self):
        for many, ties in ((6, ring(6)), (4, all_ties(3)), (3, []), (0, [])):
            handed = list(ties)
            net = Net(many, handed)
            first, second = coloured(net), coloured(net)
            kept = tuple(list(part) for part in second)
            for part in first:
                part.insert(0, 7)
                part.append(9)
            self.assertEqual(second, kept)
            self.assertEqual(coloured(net), kept)
            handed.append((0, 0))
            self.assertEqual(coloured(net), kept)


class WithAPointLess(unittest.TestCase):
    """Point 14."""

    def assert_told(self, net):
        """All four tell of the net what is due, going by its ties alone."""
        ties = net.pairs()
        self.assertIs(assert_turned(self, net, ties), True)
        assert_coloured(self, net, ties)
        arrows = plain_arrows(ties)
        steps = plain_steps(arrows) if len(arrows) < 60 else None
        for arrow in arrows[::1 + len(arrows) // 6]:
            self.assertEqual(forced(net, arrow), plain_forced(arrows, arrow))
            if steps is not None:
                self.assertEqual(led(net, arrow), plain_led(steps, arrow))

    def less(self, many, ties, point):
        """The ties that are left, as point 4 words it."""
        return sorted(tuple(sorted((one - (one > point), other - (other > point))))
                      for one, other in ties if point not in (one, other))

    def test_without_each_of_the_points(self):
        for many, ties in turnable_ties():
            net = net_of(many, ties)
            for point in range(0, many, 1 + many // 8):
                left = lessened(net, point)
                self.assertEqual(left.many, many - 1)
                self.assertEqual(left.pairs(), self.less(many, ties, point))
                self.assert_told(left)

    def test_without_each_of_the_points_of_small_nets(self):
        for many in range(1, 6):
            for number in range(0, 2 ** (many * (many - 1) // 2), 1 + many // 5):
                net = net_of(many, ties_by_number(many, number))
                if turned(net)[0]:
                    for point in range(many):
                        self.assert_told(lessened(net, point))

    def test_one_behind_the_other(self):
        for many, ties in turnable_ties():
            if many > 16:
                continue
            net = net_of(many, ties)
            while net.many:
                point = (3 * net.many + len(net.pairs())) % net.many
                due = self.less(net.many, net.pairs(), point)
                net = lessened(net, point)
                self.assertEqual(net.pairs(), due)
                self.assert_told(net)

    def test_the_greater_net_tells_the_same_afterwards(self):
        net = Net(8, ring(8))
        told = turned(net), coloured(net), led(net, (0, 1))
        for point in range(8):
            left = lessened(net, point)
            turned(left)
            coloured(left)
            led(left, left.pairs()[0])
        self.assertEqual((turned(net), coloured(net), led(net, (0, 1))), told)

    def test_a_ring_that_cannot_be_turned_can_be_without_any_point(self):
        for many in (5, 7, 9):
            net = Net(many, ring(many))
            for point in range(many):
                self.assert_told(lessened(net, point))
            self.assertIs(turned(net)[0], False)

    def test_a_net_with_a_point_more_may_clash(self):
        net = Net(6, ring(5) + [(point, 5) for point in range(5)])
        for point in range(5):
            self.assert_told(lessened(net, point))
        assert_refused(self, Clash, coloured, lessened(net, 5))


if __name__ == "__main__":
    unittest.main()
