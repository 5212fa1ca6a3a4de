"""Point 1 over the whole program: whatever is asked, in whatever order, of one net."""

import unittest

from arrowties.colours import coloured
from arrowties.errors import Clash, NoArrow, NoPoint, NoTie, Round, TieError
from arrowties.forcing import chain, forced, led
from arrowties.heights import heights, longest
from arrowties.nets import Net, lessened, opposite
from arrowties.turning import fits, gaps, turned
from tests.checks import assert_coloured, assert_turned
from tests.families import mixed, renamed
from tests.helpers import (
    all_ties, assert_refused, net_of, plain_arrows, plain_chain, plain_fits, plain_forced,
    plain_led, plain_steps, ring,
)

NETS = (
    (6, ring(6)),
    (5, ring(5)),
    (6, ring(5) + [(3, 5)]),
    (5, all_ties(5)),
    (5, [(0, 1), (1, 2), (0, 2), (2, 3), (3, 4)]),
    (7, [(0, 4), (4, 1), (1, 5), (6, 2)]),
)


def asks_of(many, ties):
    """(call, what is handed in behind the net) for all that can be asked of one net."""
    arrows = plain_arrows(ties)
    first, last, middle = arrows[0], arrows[-1], arrows[len(arrows) // 2]
    fitting = [(min(tie), max(tie)) for tie in ties]
    return [
        (Net.tied, first), (Net.tied, (0, many - 1)), (Net.tied, (0, many)), (Net.tied, (-1, 0)),
        (Net.near, (0,)), (Net.near, (many - 1,)), (Net.near, (many,)), (Net.near, (-1,)),
        (Net.pairs, ()),
        (forced, (first,)), (forced, (middle,)), (forced, ((0, 0),)), (forced, ((0, many),)),
        (led, (first,)), (led, (last,)), (led, ((-1, 0),)),
        (chain, (first, last)), (chain, (first, first[::-1])), (chain, (middle, middle)),
        (chain, ((1, 1), first)), (chain, (first, (many, 0))),
        (fits, (fitting,)), (fits, (arrows,)), (fits, ([],)), (fits, (fitting + [(many, -1)],)),
        (turned, ()), (coloured, ()),
        (lessened, (0,)), (lessened, (many - 1,)), (lessened, (many,)), (lessened, (-1,)),
        (opposite, ()),
    ]


def own(told):
    """The same once more, sharing no list with what was told."""
    if isinstance(told, Net):
        return ("net", told.many, told.pairs(), [told.near(at) for at in range(told.many)])
    if isinstance(told, (list, tuple)):
        return type(told)(own(part) for part in told)
    return told


def answer(net, ask):
    """What is told, or the class of the refusal."""
    call, handed = ask
    try:
        return call(net, *handed)
    except TieError as refusal:
        return type(refusal)


def spoil(told):
    """Each list that was told is changed by its asker."""
    if isinstance(told, (list, tuple)):
        for part in told:
            spoil(part)
    if isinstance(told, list):
        told.reverse()
        told.append((0, 1))
        told.insert(0, 0)


class OneNet(unittest.TestCase):
    def alone(self, many, ties, asks):
        """Each asked of a net of its own."""
        return [own(answer(net_of(many, ties), ask)) for ask in asks]

    def test_asked_alone_each_answers_as_it_is_due(self):
        for many, ties in NETS:
            steps = plain_steps(plain_arrows(ties))
            pairs = sorted((min(tie), max(tie)) for tie in ties)
            for call, handed in asks_of(many, ties):
                told = answer(net_of(many, ties), (call, handed))
                with self.subTest(many=many, call=call.__name__, handed=handed):
                    self.assert_due(many, pairs, steps, call, handed, told)

    def assert_due(self, many, pairs, steps, call, handed, told):
        if call in (Net.tied, Net.near, lessened):
            if not all(0 <= point < many for point in handed):
                self.assertIs(told, NoPoint)
            elif call is Net.tied:
                self.assertIs(told, tuple(handed) in steps)
            elif call is Net.near:
                self.assertEqual(told, [b for a, b in sorted(steps) if a == handed[0]])
            else:
                self.assertEqual(told.pairs(), [
                    (a - (a > handed[0]), b - (b > handed[0]))
                    for a, b in pairs if handed[0] not in (a, b)])
        elif call is Net.pairs:
            self.assertEqual(told, pairs)
        elif call is opposite:
            self.assertEqual(told.pairs(), [tie for tie in all_ties(many) if tie not in pairs])
        elif call is fits:
            self.assertIs(told, plain_fits(pairs, handed[0]))
        elif call in (forced, led, chain):
            self.assert_forcing_due(steps, call, handed, told)
        elif call is turned:
            assert_turned(self, net_of(many, pairs), pairs)
        elif turned(net_of(many, pairs))[0]:
            assert_coloured(self, net_of(many, pairs), pairs)
        else:
            self.assertIs(told, Clash)

    def assert_forcing_due(self, steps, call, handed, told):
        if not all(arrow in steps for arrow in handed):
            self.assertIs(told, NoArrow)
        elif call is forced:
            self.assertEqual(told, plain_forced(list(steps), *handed))
        elif call is led:
            self.assertEqual(told, plain_led(steps, *handed))
        else:
            self.assertEqual(told, plain_chain(steps, *handed))

    def test_each_behind_each(self):
        for many, ties in NETS:
            asks = asks_of(many, ties)
            due = self.alone(many, ties, asks)
            for ahead in asks:
                for at, ask in enumerate(asks):
                    net = net_of(many, ties)
                    spoil(answer(net, ahead))
                    self.assertEqual(own(answer(net, ask)), due[at], (ahead, ask))

    def test_all_of_one_net_in_many_orders(self):
        for many, ties in NETS:
            asks = asks_of(many, ties)
            due = self.alone(many, ties, asks)
            net = net_of(many, ties)
            for seed in range(20):
                for at in mixed(range(len(asks)), seed):
                    self.assertEqual(own(answer(net, asks[at])), due[at], asks[at])

    def test_the_same_is_told_again_where_the_asker_changed_it(self):
        for many, ties in NETS:
            asks = asks_of(many, ties)
            due = self.alone(many, ties, asks)
            net = net_of(many, ties)
            for seed in range(10):
                for at in mixed(range(len(asks)), seed):
                    told = answer(net, asks[at])
                    self.assertEqual(own(told), due[at], asks[at])
                    spoil(told)
                    self.assertEqual(own(answer(net, asks[at])), due[at], asks[at])

    def test_what_was_told_stays_as_it_was(self):
        for many, ties in NETS:
            handed = list(ties)
            asks = asks_of(many, ties)
            net = Net(many, handed)
            told = [answer(net, ask) for ask in asks]
            kept = own(told)
            for seed in range(5):
                for at in mixed(range(len(asks)), seed):
                    spoil(answer(net, asks[at]))
            handed.clear()
            self.assertEqual(own(told), kept)
            self.assertEqual(own([answer(net, ask) for ask in asks]), kept)

    def test_what_is_handed_in_stays_as_it_was(self):
        for many, ties in NETS:
            handed = list(ties)
            net = Net(many, handed)
            for call, given in asks_of(many, ties):
                kept = own(given)
                answer(net, (call, given))
                self.assertEqual(given, kept)
            self.assertEqual(handed, ties)

    def test_the_list_of_ties_is_changed_behind_each(self):
        for many, ties in NETS:
            asks = asks_of(many, ties)
            due = self.alone(many, ties, asks)
            for at, ask in enumerate(asks):
                handed = list(ties)
                net = Net(many, handed)
                answer(net, asks[at - 1])
                handed[0] = (0, 0)
                handed.append((1, 3))
                self.assertEqual(own(answer(net, ask)), due[at], ask)
                handed.clear()
                self.assertEqual(own(answer(net, ask)), due[at], ask)

    def test_a_told_turning_stays_one_that_fits(self):
        for many, ties in NETS:
            net = net_of(many, ties)
            done, row = turned(net)
            for ask in asks_of(many, ties):
                spoil(answer(net, ask))
            if done:
                self.assertIs(fits(net, row), True)
            else:
                self.assertEqual(chain(net, row[0], row[-1])[-1], row[0][::-1])


class SeveralNets(unittest.TestCase):
    def test_two_nets_of_the_same_ties_tell_the_same(self):
        for many, ties in NETS:
            asks = asks_of(many, ties)
            one, other = net_of(many, ties), net_of(many, ties)
            for seed in range(6):
                for at in mixed(range(len(asks)), seed):
                    told = answer(one, asks[at])
                    kept = own(told)
                    spoil(told)
                    self.assertEqual(own(answer(other, asks[at])), kept)

    def test_the_order_of_the_ties_changes_nothing_that_is_promised(self):
        for many, ties in NETS:
            asks = [ask for ask in asks_of(many, ties) if ask[0] not in (turned, coloured)]
            one = net_of(many, ties)
            for seed in range(6):
                handed = [tie[::-1] if at % 2 == seed % 2 else tie
                          for at, tie in enumerate(mixed(ties, seed))]
                other = Net(many, handed)
                for ask in asks:
                    self.assertEqual(own(answer(other, ask)), own(answer(one, ask)))
                self.assertIs(assert_turned(self, other, handed), turned(one)[0])
                if turned(one)[0]:
                    self.assertEqual(assert_coloured(self, other, handed),
                                     max(coloured(one)[0]))

    def test_unlike_nets_asked_in_turns(self):
        asks = [asks_of(many, ties) for many, ties in NETS]
        due = [[own(answer(net_of(many, ties), ask)) for ask in asks[at]]
               for at, (many, ties) in enumerate(NETS)]
        nets = [net_of(many, ties) for many, ties in NETS]
        for seed in range(4):
            for turn in mixed(range(len(asks[0])), seed):
                for at, net in enumerate(nets):
                    told = answer(net, asks[at][turn])
                    self.assertEqual(own(told), due[at][turn])
                    spoil(told)

    def test_nets_made_of_a_net_stand_by_themselves(self):
        for many, ties in NETS:
            net = net_of(many, ties)
            asks = asks_of(many, ties)
            due = [own(answer(net_of(many, ties), ask)) for ask in asks]
            for made in (opposite(opposite(net)), opposite(net), lessened(net, 0)):
                kept = own(made)
                for ask in asks:
                    spoil(answer(made, ask))
                    spoil(answer(net, ask))
                self.assertEqual(own(made), kept)
                self.assertEqual([own(answer(net, ask)) for ask in asks], due)

    def test_the_opposite_of_the_opposite_tells_the_same(self):
        for many, ties in NETS:
            net = net_of(many, ties)
            again = opposite(opposite(net))
            for ask in asks_of(many, ties):
                if ask[0] not in (turned, coloured):
                    self.assertEqual(own(answer(again, ask)), own(answer(net, ask)))
            self.assertIs(assert_turned(self, again, ties), turned(net)[0])

    def test_other_names_for_the_points_change_only_the_names(self):
        for many, ties in NETS:
            done = turned(net_of(many, ties))[0]
            for seed in range(5):
                handed = renamed(many, ties, seed)
                self.assertIs(turned(net_of(many, handed))[0], done)

    def test_calls_without_a_net_change_nothing_between(self):
        net = Net(5, ring(5))
        kept = own([answer(net, ask) for ask in asks_of(5, ring(5))])
        for arrows in ([(0, 1), (1, 2)], [(0, 1), (1, 0)], [(9, 1)], []):
            gaps(arrows)
            for call in (heights, longest):
                try:
                    spoil(call(5, arrows))
                except (NoPoint, Round):
                    pass
        for ties in ([(0, 0)], [(0, 9)]):
            assert_refused(self, NoTie, Net, 5, ties)
        self.assertEqual(own([answer(net, ask) for ask in asks_of(5, ring(5))]), kept)


if __name__ == "__main__":
    unittest.main()
