"""What several tests share: maps to ask about, numbers, and the look at what was handed in."""

import copy
import functools
import itertools

# A triangle 0, 1, 2 that goes round to the left, and 3 within it.
FOUR = [[1, 3, 2], [2, 3, 0], [0, 3, 1], [2, 0, 1]]
FOUR_LANDS = [[0, 1, 3], [0, 2, 1], [0, 3, 2], [1, 2, 3]]

# The cube: 0 to 3 the outer square, to the left; 4 to 7 the inner one.
CUBE = [[1, 4, 3], [2, 5, 0], [3, 6, 1], [0, 7, 2], [0, 5, 7], [1, 6, 4], [2, 7, 5], [3, 4, 6]]
CUBE_LANDS = [[0, 1, 5, 4], [0, 3, 2, 1], [0, 4, 7, 3], [1, 2, 6, 5], [2, 3, 7, 6], [4, 5, 6, 7]]

# Seven places, each tied to each, on a ring-shaped tube: no sheet.
TUBE = [[(place + step) % 7 for step in (1, 3, 2, 6, 4, 5)] for place in range(7)]


def whole(number):
    return (number, 1)


def whole_rows(rows):
    return [[whole(number) for number in row] for row in rows]


def told(case, call, *given):
    """What the call tells; fails where it changed what it was handed."""
    kept = copy.deepcopy(given)
    try:
        return call(*given)
    finally:
        case.assertEqual(given, kept, "what was handed in was changed")


def spoiled(thing):
    """Changes a told list, and all lists within it, as the asker may."""
    for inner in thing:
        if isinstance(inner, list):
            spoiled(inner)
    thing.reverse()
    thing.append("spoiled")


def check_own(case, call, *given):
    """What is told is the asker's own: spoiling it changes nothing told later, nor what was handed in."""
    first = told(case, call, *given)
    kept = copy.deepcopy(first)
    kept_given = copy.deepcopy(given)
    spoiled(first)
    case.assertEqual(given, kept_given)
    case.assertEqual(call(*given), kept)


def numbers(seed, least, most):
    """Numbers without end, the same at each run."""
    state = seed
    while True:
        state = (state * 6364136223846793005 + 1442695040888963407) % 2 ** 64
        yield least + (state >> 20) % (most - least + 1)


def drawn_map(spots, pairs):
    """The map of a drawing with straight ties: each order round to the left, as the ties leave the spot."""
    def turned(place):
        def compare(one, other):
            first = way(place, one)
            second = way(place, other)
            if half(first) != half(second):
                return half(first) - half(second)
            return second[0] * first[1] - first[0] * second[1]
        return compare

    def way(place, neighbour):
        return (spots[neighbour][0] - spots[place][0], spots[neighbour][1] - spots[place][1])

    def half(step):
        return 0 if step[1] > 0 or (step[1] == 0 and step[0] > 0) else 1

    orders = [[] for place in spots]
    for one, other in pairs:
        orders[one].append(other)
        orders[other].append(one)
    return [sorted(order, key=functools.cmp_to_key(turned(place))) for place, order in enumerate(orders)]


def grid(wide, high):
    """The spots, ties and map of a grid; place x + y times wide lies at (x, y)."""
    spots = [(x, y) for y in range(high) for x in range(wide)]
    pairs = [(k, k + 1) for k, spot in enumerate(spots) if spot[0] + 1 < wide]
    pairs += [(k, k + wide) for k, spot in enumerate(spots) if spot[1] + 1 < high]
    return spots, pairs, drawn_map(spots, pairs)


def round_about(places):
    """A ring of so many places, two or more ties in all."""
    return [[(place - 1) % places, (place + 1) % places] for place in range(places)]


def path(places):
    return [[other for other in (place - 1, place + 1) if 0 <= other < places] for place in range(places)]


def beside(*several):
    """One map of several parts, numbered one behind the other."""
    orders = []
    for part in several:
        start = len(orders)
        orders += [[neighbour + start for neighbour in order] for order in part]
    return orders


def small_maps(places):
    """Every map of so many places, each order begun at its least neighbour."""
    pairs = list(itertools.combinations(range(places), 2))
    for picked in itertools.product([False, True], repeat=len(pairs)):
        there = [pair for pair, taken in zip(pairs, picked) if taken]
        neighbours = [[other for other in range(places) if tuple(sorted((place, other))) in there]
                      for place in range(places)]
        choices = [[order[:1] + list(rest) for rest in itertools.permutations(order[1:])] for order in neighbours]
        for orders in itertools.product(*choices):
            yield [list(order) for order in orders]
