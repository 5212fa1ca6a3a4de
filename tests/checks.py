"""Answers that are not promised in one form, held against what is promised of them."""

import contextlib
import itertools
import signal

from arrowties.colours import coloured
from arrowties.forcing import forced
from arrowties.turning import fits, turned
from tests.helpers import plain_arrows, plain_fits, plain_forced


@contextlib.contextmanager
def short_time(seconds=30):
    """What does not end in time fails, instead of keeping the tests from ending."""
    def stop(number, frame):
        raise AssertionError(f"no answer within {seconds} seconds")

    before = signal.signal(signal.SIGALRM, stop)
    signal.alarm(seconds)
    try:
        yield
    finally:
        signal.alarm(0)
        signal.signal(signal.SIGALRM, before)


def assert_turned(case, net, ties):
    """What is told of the net proves itself; tells whether it can be turned."""
    with short_time():
        told = turned(net)
    case.assertIs(type(told), tuple)
    case.assertEqual(len(told), 2)
    done, row = told
    case.assertIs(type(row), list)
    case.assertEqual([type(arrow) for arrow in row], [tuple] * len(row))
    if done is True:
        case.assertTrue(plain_fits(ties, row), (ties, row))
        case.assertIs(fits(net, row), True)
        return True
    case.assertIs(done, False)
    arrows = plain_arrows(ties)
    case.assertGreater(len(row), 1)
    case.assertIn(row[0], arrows)
    case.assertEqual(row[-1], row[0][::-1])
    for one, other in zip(row, row[1:]):
        case.assertIn(other, plain_forced(arrows, one))
        case.assertIn(other, forced(net, one))
    return False


def assert_coloured(case, net, ties):
    """What is told of the net is what point 13 says; tells how many colours there are."""
    with short_time():
        told = coloured(net)
    case.assertIs(type(told), tuple)
    case.assertEqual([type(part) for part in told], [list, list])
    colours, points = told
    for number in colours + points:
        case.assertIs(type(number), int)
    case.assertEqual(len(colours), net.many)
    greatest = max(colours, default=0)
    case.assertEqual(sorted(set(colours)), list(range(1, greatest + 1)))
    for one, other in ties:
        case.assertNotEqual(colours[one], colours[other])
    case.assertEqual(len(points), greatest)
    case.assertEqual(len(set(points)), greatest)
    case.assertLessEqual(set(points), set(range(net.many)))
    for one, other in itertools.combinations(points, 2):
        case.assertTrue((one, other) in ties or (other, one) in ties, (ties, points))
    return greatest
