"""Points 5 to 8, and point 1 for what they tell: forced, led and chain."""

import unittest

from arrowties.errors import NoArrow
from arrowties.forcing import chain, forced, led
from arrowties.nets import Net
from tests.helpers import (
    all_ties, assert_refused, big_ties, net_of, plain_arrows, plain_chain, plain_forced,
    plain_led, plain_steps, ring, small_ties,
)


class Forced(unittest.TestCase):
    """Points 5 and 6: what an arrow forces at once."""

    def test_one_tie(self):
        net = Net(2, [(0, 1)])
        self.assertEqual(forced(net, (0, 1)), [])
        self.assertEqual(forced(net, (1, 0)), [])

    def test_two_ties(self):
        net = Net(3, [(0, 1), (1, 2)])
        self.assertEqual(forced(net, (0, 1)), [(2, 1)])
        self.assertEqual(forced(net, (1, 0)), [(1, 2)])
        self.assertEqual(forced(net, (2, 1)), [(0, 1)])
        self.assertEqual(forced(net, (1, 2)), [(1, 0)])

    def test_three_points_tied_two_by_two_force_nothing(self):
        net = Net(3, all_ties(3))
        for arrow in plain_arrows(all_ties(3)):
            self.assertEqual(forced(net, arrow), [])

    def test_both_ways_to_force_are_told_rising(self):
        net = Net(4, ring(4))
        self.assertEqual(forced(net, (0, 1)), [(0, 3), (2, 1)])
        self.assertEqual(forced(net, (2, 1)), [(0, 1), (2, 3)])
        self.assertEqual(forced(net, (3, 2)), [(1, 2), (3, 0)])
        self.assertEqual(forced(net, (3, 0)), [(1, 0), (3, 2)])

    def test_a_star(self):
        net = Net(5, [(2, 0), (2, 1), (2, 3), (2, 4)])
        self.assertEqual(forced(net, (2, 1)), [(2, 0), (2, 3), (2, 4)])
        self.assertEqual(forced(net, (1, 2)), [(0, 2), (3, 2), (4, 2)])

    def test_a_tie_that_stands_apart(self):
        net = Net(4, [(0, 1), (2, 3)])
        for arrow in ((0, 1), (1, 0), (2, 3), (3, 2)):
            self.assertEqual(forced(net, arrow), [])

    def test_many_nets_against_a_plain_going_through(self):
        for many, ties in [*small_ties(), *big_ties()]:
            net = net_of(many, ties)
            arrows = plain_arrows(ties)
            for arrow in arrows[:40]:
                self.assertEqual(forced(net, arrow), plain_forced(arrows, arrow))


class Led(unittest.TestCase):
    """Point 6: what an arrow leads to."""

    def test_an_arrow_that_forces_nothing_leads_to_itself(self):
        self.assertEqual(led(Net(2, [(0, 1)]), (1, 0)), [(1, 0)])
        self.assertEqual(led(Net(3, all_ties(3)), (2, 0)), [(2, 0)])

    def test_two_ties(self):
        net = Net(3, [(0, 1), (1, 2)])
        self.assertEqual(led(net, (2, 1)), [(0, 1), (2, 1)])
        self.assertEqual(led(net, (1, 0)), [(1, 0), (1, 2)])

    def test_several_steps(self):
        net = Net(5, [(0, 1), (1, 2), (2, 3), (3, 4)])
        self.assertEqual(led(net, (0, 1)), [(0, 1), (2, 1), (2, 3), (4, 3)])
        self.assertEqual(led(net, (3, 4)), [(1, 0), (1, 2), (3, 2), (3, 4)])

    def test_a_ring_of_five_leads_everywhere(self):
        net = Net(5, ring(5))
        for arrow in plain_arrows(ring(5)):
            self.assertEqual(led(net, arrow), plain_arrows(ring(5)))

    def test_a_ring_of_six_leads_to_half(self):
        half = [(0, 1), (0, 5), (2, 1), (2, 3), (4, 3), (4, 5)]
        for arrow in half:
            self.assertEqual(led(Net(6, ring(6)), arrow), half)

    def test_many_nets_against_a_plain_going_through(self):
        for many, ties in [*small_ties(), *big_ties()]:
            net = net_of(many, ties)
            steps = plain_steps(plain_arrows(ties))
            for arrow in list(steps)[:20]:
                self.assertEqual(led(net, arrow), plain_led(steps, arrow))

    def test_from_each_arrow_of_what_is_told(self):
        for many, ties in small_ties():
            net = net_of(many, ties)
            steps = plain_steps(plain_arrows(ties))
            for arrow in steps:
                for reached in led(net, arrow):
                    self.assertEqual(led(net, reached), plain_led(steps, reached))


class Chain(unittest.TestCase):
    """Point 7: rows of arrows."""

    def test_from_an_arrow_to_itself(self):
        for many, ties in ((2, [(0, 1)]), (3, all_ties(3)), (4, ring(4)), (5, ring(5))):
            for arrow in plain_arrows(ties):
                self.assertEqual(chain(net_of(many, ties), arrow, arrow), [arrow])

    def test_in_one_step(self):
        net = Net(3, [(0, 1), (1, 2)])
        self.assertEqual(chain(net, (0, 1), (2, 1)), [(0, 1), (2, 1)])
        self.assertEqual(chain(net, (2, 1), (0, 1)), [(2, 1), (0, 1)])

    def test_in_several_steps(self):
        net = Net(5, [(0, 1), (1, 2), (2, 3), (3, 4)])
        row = [(0, 1), (2, 1), (2, 3), (4, 3)]
        self.assertEqual(chain(net, (0, 1), (4, 3)), row)
        self.assertEqual(chain(net, (4, 3), (0, 1)), row[::-1])

    def test_what_is_not_reached(self):
        net = Net(3, [(0, 1), (1, 2)])
        self.assertIsNone(chain(net, (0, 1), (1, 0)))
        self.assertIsNone(chain(net, (0, 1), (1, 2)))
        self.assertIsNone(chain(Net(4, [(0, 1), (2, 3)]), (0, 1), (2, 3)))
        self.assertIsNone(chain(Net(3, all_ties(3)), (0, 1), (0, 2)))

    def test_to_the_arrow_turned(self):
        net = Net(5, ring(5))
        self.assertEqual(chain(net, (0, 1), (1, 0)),
                         [(0, 1), (0, 4), (3, 4), (3, 2), (1, 2), (1, 0)])
        self.assertEqual(chain(net, (3, 2), (2, 3)),
                         [(3, 2), (1, 2), (1, 0), (4, 0), (4, 3), (2, 3)])
        for many in (2, 4, 6):
            self.assertIsNone(chain(net_of(many, ring(many)[:many - 1]), (0, 1), (1, 0)))

    def test_the_least_of_two_shortest_rows(self):
        net = Net(4, ring(4))
        self.assertEqual(chain(net, (0, 1), (2, 3)), [(0, 1), (0, 3), (2, 3)])
        self.assertEqual(chain(net, (2, 3), (0, 1)), [(2, 3), (0, 3), (0, 1)])
        self.assertEqual(chain(net, (3, 2), (1, 0)), [(3, 2), (1, 2), (1, 0)])

    def test_a_shorter_row_comes_ahead_of_a_lesser_one(self):
        net = Net(6, ring(6))
        self.assertEqual(chain(net, (0, 5), (4, 3)), [(0, 5), (4, 5), (4, 3)])

    def test_small_nets_against_all_rows(self):
        for many, ties in small_ties():
            net = net_of(many, ties)
            steps = plain_steps(plain_arrows(ties))
            for one in steps:
                for other in steps:
                    self.assertEqual(chain(net, one, other), plain_chain(steps, one, other))

    def test_bigger_nets_against_all_rows(self):
        for many, ties in big_ties():
            net = net_of(many, ties)
            steps = plain_steps(plain_arrows(ties))
            arrows = list(steps)
            for one in arrows[1::len(arrows) // 3]:
                for other in arrows[::max(1, len(arrows) // 7)]:
                    self.assertEqual(chain(net, one, other), plain_chain(steps, one, other))


class Refused(unittest.TestCase):
    """Point 8."""

    def wrong_pairs(self, net):
        """Pairs that are no arrows: not tied, the same, below 0, beyond the points."""
        many = net.many
        for one in range(-many - 1, many + 2):
            for other in range(-many - 1, many + 2):
                inside = 0 <= one < many and 0 <= other < many
                if not inside or not net.tied(one, other):
                    yield one, other

    def nets(self):
        return [
            (Net(3, [(0, 1), (1, 2)]), (0, 1)),
            (Net(3, [(0, 2)]), (2, 0)),
            (Net(4, all_ties(4)), (3, 1)),
            (Net(5, ring(5)), (4, 0)),
        ]

    def test_forced_and_led(self):
        for net, _ in self.nets():
            for wrong in self.wrong_pairs(net):
                assert_refused(self, NoArrow, forced, net, wrong)
                assert_refused(self, NoArrow, led, net, wrong)

    def test_chain_with_either_or_both(self):
        for net, right in self.nets():
            for wrong in self.wrong_pairs(net):
                assert_refused(self, NoArrow, chain, net, wrong, right)
                assert_refused(self, NoArrow, chain, net, right, wrong)
                assert_refused(self, NoArrow, chain, net, wrong, wrong)
                assert_refused(self, NoArrow, chain, net, wrong, wrong[::-1])
                assert_refused(self, NoArrow, chain, net, wrong, (0, 0))

    def test_nets_without_arrows(self):
        for many in (0, 1, 2, 24):
            net = Net(many, [])
            for wrong in ((0, 0), (0, 1), (1, 0), (-1, 0), (0, -1), (many, 0), (0, many)):
                assert_refused(self, NoArrow, forced, net, wrong)
                assert_refused(self, NoArrow, led, net, wrong)
                assert_refused(self, NoArrow, chain, net, wrong, wrong)

    def test_the_most_points(self):
        net = Net(24, all_ties(24))
        for wrong in ((23, 24), (24, 23), (0, -1), (-1, 0), (-24, 1), (23, 23), (25, 0)):
            assert_refused(self, NoArrow, forced, net, wrong)
            assert_refused(self, NoArrow, led, net, wrong)
            assert_refused(self, NoArrow, chain, net, wrong, (0, 1))
            assert_refused(self, NoArrow, chain, net, (0, 1), wrong)


class AskersOwn(unittest.TestCase):
    """Point 1: what is told is the asker's own, what is handed in stays."""

    def setUp(self):
        self.ties = [(4, 0), (1, 0), (2, 1), (3, 2), (4, 3)]
        self.net = Net(5, self.ties)

    def asked(self):
        return [
            forced(self.net, (0, 1)),
            led(self.net, (0, 1)),
            chain(self.net, (0, 1), (1, 0)),
            chain(self.net, (0, 1), (0, 1)),
        ]

    def test_a_told_list_is_changed_and_the_same_is_told_again(self):
        kept = [list(row) for row in self.asked()]
        for row in self.asked():
            row[0] = (7, 7)
            row.append((9, 9))
        self.assertEqual(self.asked(), kept)

    def test_a_told_list_stays_as_it_was_when_more_is_asked(self):
        told = self.asked()
        kept = [list(row) for row in told]
        for row in self.asked():
            row.clear()
        for arrow in plain_arrows(self.ties):
            forced(self.net, arrow)
            led(self.net, arrow)
            chain(self.net, arrow, (0, 1))
        self.assertEqual(told, kept)

    def test_the_net_stays_as_it_was(self):
        self.asked()
        self.assertEqual(self.net.many, 5)
        self.assertEqual(self.net.pairs(), [(0, 1), (0, 4), (1, 2), (2, 3), (3, 4)])
        self.assertEqual(self.ties, [(4, 0), (1, 0), (2, 1), (3, 2), (4, 3)])

    def test_the_list_of_ties_is_changed_behind_the_call(self):
        kept = self.asked()
        self.ties.append((0, 2))
        self.ties[0] = (1, 3)
        self.assertEqual(self.asked(), kept)
        self.ties.clear()
        self.assertEqual(self.asked(), kept)

    def test_the_kinds_of_what_is_told(self):
        for row in self.asked():
            self.assertIs(type(row), list)
            for arrow in row:
                self.assertIs(type(arrow), tuple)
                self.assertEqual(len(arrow), 2)


if __name__ == "__main__":
    unittest.main()
