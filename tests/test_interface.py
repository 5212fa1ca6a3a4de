"""The names, arguments and places that the interface lists."""

import inspect
import unittest

from arrowties import colours, errors, forcing, heights, nets, turning

FUNCTIONS = (
    (nets, "opposite", ["net"]),
    (nets, "lessened", ["net", "point"]),
    (forcing, "forced", ["net", "arrow"]),
    (forcing, "led", ["net", "arrow"]),
    (forcing, "chain", ["net", "one", "other"]),
    (turning, "gaps", ["arrows"]),
    (turning, "fits", ["net", "arrows"]),
    (turning, "turned", ["net"]),
    (heights, "heights", ["many", "arrows"]),
    (heights, "longest", ["many", "arrows"]),
    (colours, "coloured", ["net"]),
)
METHODS = (
    ("__init__", ["self", "many", "ties"]),
    ("tied", ["self", "one", "other"]),
    ("near", ["self", "one"]),
    ("pairs", ["self"]),
)
ERRORS = ("TieError", "NoPoints", "NoPoint", "NoTie", "TwiceTold", "NoArrow", "Round", "Clash")


class Interface(unittest.TestCase):
    def test_functions_have_their_arguments_and_their_file(self):
        for module, name, arguments in FUNCTIONS:
            with self.subTest(name=name):
                function = getattr(module, name)
                self.assertEqual(list(inspect.signature(function).parameters), arguments)
                self.assertEqual(function.__module__, module.__name__)

    def test_net_has_its_methods_in_its_own_body(self):
        self.assertEqual(nets.Net.__module__, "arrowties.nets")
        for name, arguments in METHODS:
            with self.subTest(name=name):
                method = vars(nets.Net)[name]
                self.assertEqual(list(inspect.signature(method).parameters), arguments)

    def test_errors_are_defined_in_their_file(self):
        for name in ERRORS:
            with self.subTest(name=name):
                self.assertEqual(getattr(errors, name).__module__, "arrowties.errors")

    def test_arguments_can_be_named(self):
        net = nets.Net(many=3, ties=[(0, 1), (1, 2)])
        self.assertIs(net.tied(one=0, other=1), True)
        self.assertEqual(net.near(one=1), [0, 2])
        self.assertEqual(nets.opposite(net=net).pairs(), [(0, 2)])
        self.assertEqual(nets.lessened(net=net, point=0).pairs(), [(0, 1)])
        self.assertEqual(forcing.forced(net=net, arrow=(0, 1)), [(2, 1)])
        self.assertEqual(forcing.led(net=net, arrow=(0, 1)), [(0, 1), (2, 1)])
        self.assertEqual(forcing.chain(net=net, one=(0, 1), other=(2, 1)), [(0, 1), (2, 1)])
        self.assertEqual(turning.gaps(arrows=[(0, 1), (1, 2)]), [(0, 1, 2)])
        self.assertIs(turning.fits(net=net, arrows=[(0, 1), (2, 1)]), True)
        self.assertIs(turning.turned(net=net)[0], True)
        self.assertEqual(heights.heights(many=3, arrows=[(2, 0)]), [2, 1, 1])
        self.assertEqual(heights.longest(many=3, arrows=[(2, 0)]), [2, 0])
        self.assertEqual(len(colours.coloured(net=net)), 2)


if __name__ == "__main__":
    unittest.main()
