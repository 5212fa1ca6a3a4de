"""Nets of which it is known whether they can be turned, and mixed ones."""

from tests.helpers import all_ties, ring


def stream(seed):
    """Numbers that look mixed and are the same each time."""
    state = seed * 2 + 1
    while True:
        state = (state * 6364136223846793005 + 1442695040888963407) % 2 ** 64
        yield state >> 33


def mixed(items, seed):
    """The items in another order."""
    numbers = stream(seed)
    return [item for _, _, item in sorted((next(numbers), at, item)
                                          for at, item in enumerate(items))]


def renamed(many, ties, seed):
    """The ties with other numbers for the points, in another order, some turned about."""
    names = mixed(range(many), seed)
    handed = [(names[one], names[other]) for one, other in mixed(ties, seed + 1)]
    return [tie[::-1] if at % 3 == seed % 3 else tie for at, tie in enumerate(handed)]


def reached_by_steps(many, seed, part):
    """The ties between each two points one of which is reached from the other."""
    numbers = stream(seed)
    reached = {tie for tie in all_ties(many) if next(numbers) % 100 < part}
    for middle in range(many):
        reached |= {(a, c) for a, b in reached if b == middle
                    for start, c in reached if start == middle}
    return sorted(reached)


def rising_in_both(many, seed):
    """The ties between each two points that rise in two orders at once."""
    place = mixed(range(many), seed)
    return [(one, other) for one, other in all_ties(many) if place[one] < place[other]]


def tree(many, branches):
    return [((point - 1) // branches, point) for point in range(1, many)]


def two_sides(many, seed, part):
    numbers = stream(seed)
    return [(one, other) for one, other in all_ties(many)
            if one < many // 2 <= other and next(numbers) % 100 < part]


def parts_tied(many, parts):
    """Points of unlike parts are tied, points of one part are not."""
    return [(one, other) for one, other in all_ties(many) if one % parts != other % parts]


def without_ring(many):
    """All ties but those of a ring."""
    left_out = {tuple(sorted(tie)) for tie in ring(many)}
    return [tie for tie in all_ties(many) if tie not in left_out]


def turnable_ties():
    """(many, ties) of nets that can be turned, one for each reason and size."""
    for many in (0, 1, 2, 7, 24):
        yield many, []
    for many in (2, 3, 6, 11, 24):
        for branches in (1, 2, 3, 23):
            yield many, tree(many, branches)
    for many in (4, 6, 8, 14, 24):
        yield many, ring(many)
        yield many, two_sides(many, many, 100)
        yield many, two_sides(many, many, 40)
    for many in (2, 3, 4, 8, 24):
        yield many, all_ties(many)
    for many in (5, 9, 16, 24):
        for seed in (1, 2, 3):
            yield many, reached_by_steps(many, seed, 40 // seed)
            yield many, rising_in_both(many, seed)
        yield many, parts_tied(many, 3)
        yield many, ring(4) + [(one + 4, other + 4) for one, other in all_ties(many - 4)]


def unturnable_ties():
    """(many, ties) of nets that can't be turned: odd rings, also with more around them."""
    for size in (5, 7, 9, 15, 23):
        yield size, ring(size)
        yield size + 1, ring(size) + [(point, size) for point in range(size)]
        yield size + 1, ring(size) + [(0, size)]
        yield size + 1, ring(size) + [(0, size), (2, size)]
        yield 24, ring(size)
    for size in (5, 7):
        further = [(one, other) for one in range(size) for other in range(size, 24)]
        yield 24, ring(size) + further
        yield 24, ring(size) + further + all_ties(24)[-3:]
        yield 24, ring(size) + [(point - 1, point) for point in range(size, 24)]
        yield 24, ring(size) + [(one + size, other + size) for one, other in all_ties(24 - size)]
    for size in (6, 7, 8, 12):
        yield size, without_ring(size)


def mixed_ties():
    """(many, ties) of nets of which nothing is known."""
    for many in (6, 7, 8, 11, 16, 24):
        for seed in range(12):
            numbers = stream(many * 100 + seed)
            part = (8, 15, 25, 40, 55, 70, 80, 86, 90, 94, 97, 99)[seed]
            yield many, [tie for tie in all_ties(many) if next(numbers) % 100 < part]
