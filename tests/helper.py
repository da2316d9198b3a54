"""What several tests share: maps to ask about, numbers, and the look at what was handed in."""

import copy
import functools
import itertools
from fractions import Fraction
from math import gcd, lcm

# A triangle 0, 1, 2 that goes round to the left, and 3 within it.
FOUR = [[1, 3, 2], [2, 3, 0], [0, 3, 1], [2, 0, 1]]
FOUR_LANDS = [[0, 1, 3], [0, 2, 1], [0, 3, 2], [1, 2, 3]]

# The cube: 0 to 3 the outer square, to the left; 4 to 7 the inner one.
CUBE = [[1, 4, 3], [2, 5, 0], [3, 6, 1], [0, 7, 2], [0, 5, 7], [1, 6, 4], [2, 7, 5], [3, 4, 6]]
CUBE_LANDS = [[0, 1, 5, 4], [0, 3, 2, 1], [0, 4, 7, 3], [1, 2, 6, 5], [2, 3, 7, 6], [4, 5, 6, 7]]

# Seven places, each tied to each, on a ring-shaped tube: no sheet.
TUBE = [[(place + step) % 7 for step in (1, 3, 2, 6, 4, 5)] for place in range(7)]

ALONE = [[]]
STAR = [[1, 2, 3], [0], [0], [0]]
# Two triangles that have place 0 in common.
BOW = [[1, 2, 3, 4], [2, 0], [0, 1], [4, 0], [0, 3]]
# A square with a tie from place 1 to place 4, which lies within it and has no other neighbour.
SPUR = [[1, 3], [2, 4, 0], [3, 1], [0, 2], [1]]
# With the values that their refusals keep: no maps; maps on no sheet; maps on a sheet that are not tight.
NO_MAPS = [([[0]], 0), ([[1], []], 0), ([[1], [0, 1]], 1), (CUBE + [[8]], 8)]
NO_SHEETS = [(TUBE, 0), (FOUR + [[]], None), (TUBE + [[]], None), ([[], []], None)]
PARTED = [(ALONE, [0]), ([[1], [0]], [0, 1]), ([[1, 2], [2, 0], [0, 1]], [0, 1, 2]), (STAR, [0]), (BOW, [0]),
          (SPUR, [1]), ([[1], [0, 2], [1]], [1]), ([[3, 1], [0, 2], [1, 3], [2, 0]], [0, 2])]
EACH_TO_EACH = [[other for other in range(60) if other != place] for place in range(60)]


def whole(number):
    return (number, 1)


def whole_rows(rows):
    return [[whole(number) for number in row] for row in rows]


def told(case, call, *given):
    """What the call tells; fails where it changed what it was handed."""
    kept = copy.deepcopy(given)
    try:
        return call(*given)
    finally:
        case.assertEqual(given, kept, "what was handed in was changed")


def refused(case, error, call, *given):
    """The refusal with which the call ends; fails where it is of another class, or what was handed in was changed."""
    with case.assertRaises(error) as caught:
        told(case, call, *given)
    case.assertIs(type(caught.exception), error)
    return caught.exception


def lists_in(thing):
    """All lists of a thing, itself too."""
    found = [thing] if isinstance(thing, list) else []
    if isinstance(thing, (list, tuple)):
        for inner in thing:
            found += lists_in(inner)
    return found


def spoiled(thing):
    """Changes a told list, and all lists within it, as the asker may."""
    for inner in lists_in(thing):
        inner.reverse()
        inner.append("spoiled")


def check_own(case, call, *given):
    """What is told is the asker's own: spoiling it changes nothing told later, nor what was handed in."""
    first = told(case, call, *given)
    second = call(*given)
    kept = copy.deepcopy(first)
    kept_given = copy.deepcopy(given)
    fresh = [id(thing) for thing in lists_in(first) + lists_in(second)]
    case.assertEqual(len(set(fresh)), len(fresh), "a list stands at two places")
    case.assertEqual(set(fresh) & {id(thing) for thing in lists_in(given)}, set(), "a list handed in is told")
    spoiled(first)
    case.assertEqual(given, kept_given)
    case.assertEqual(second, kept)
    case.assertEqual(call(*given), kept)


def check_points(case, points, many, size):
    """A list of so many tuples, each of so many fractions in lowest terms."""
    case.assertIs(type(points), list)
    case.assertEqual(len(points), many)
    for point in points:
        case.assertIs(type(point), tuple)
        case.assertEqual(len(point), size)
        for number in point:
            case.assertIs(type(number), tuple)
            case.assertEqual([type(part) for part in number], [int, int])
            case.assertTrue(number[1] >= 1 and gcd(*number) == 1)


def numbers(seed, least, most):
    """Numbers without end, the same at each run."""
    state = seed
    while True:
        state = (state * 6364136223846793005 + 1442695040888963407) % 2 ** 64
        yield least + (state >> 20) % (most - least + 1)


def drawn_map(spots, pairs):
    """The map of a drawing with straight ties: each order round to the left, as the ties leave the spot."""
    def turned(place):
        def compare(one, other):
            first = way(place, one)
            second = way(place, other)
            if half(first) != half(second):
                return half(first) - half(second)
            return second[0] * first[1] - first[0] * second[1]
        return compare

    def way(place, neighbour):
        return (spots[neighbour][0] - spots[place][0], spots[neighbour][1] - spots[place][1])

    def half(step):
        return 0 if step[1] > 0 or (step[1] == 0 and step[0] > 0) else 1

    orders = [[] for place in spots]
    for one, other in pairs:
        orders[one].append(other)
        orders[other].append(one)
    return [sorted(order, key=functools.cmp_to_key(turned(place))) for place, order in enumerate(orders)]


def grid(wide, high):
    """The spots, ties and map of a grid; place x + y times wide lies at (x, y)."""
    spots = [(x, y) for y in range(high) for x in range(wide)]
    pairs = [(k, k + 1) for k, spot in enumerate(spots) if spot[0] + 1 < wide]
    pairs += [(k, k + wide) for k, spot in enumerate(spots) if spot[1] + 1 < high]
    return spots, pairs, drawn_map(spots, pairs)


def least_begin(ring):
    return min(list(ring[k:]) + list(ring[:k]) for k in range(len(ring)))


def map_of_rings(rings):
    """The map whose lands are these: round a corner, the next place of the ring stands just ahead of the last one."""
    following = {}
    for ring in rings:
        for k, place in enumerate(ring):
            following.setdefault(place, {})[ring[(k + 1) % len(ring)]] = ring[k - 1]
    orders = []
    for place in sorted(following):
        order = [min(following[place])]
        while following[place][order[-1]] != order[0]:
            order.append(following[place][order[-1]])
        orders.append(order)
    return orders


def wheel(spokes):
    """Place 0 within a ring of the others."""
    rim = [1 + k for k in range(spokes)]
    return map_of_rings([[0, rim[k - 1], rim[k]] for k in range(spokes)] + [rim[::-1]])


def prism(sides):
    low = list(range(sides))
    high = [place + sides for place in low]
    walls = [[low[k - 1], low[k], high[k], high[k - 1]] for k in range(sides)]
    return map_of_rings(walls + [low[::-1], high])


def barrel(sides, rings):
    """A place on top, so many rings under it, each turned by half a step, and a place at the bottom."""
    def at(ring, k):
        return 1 + ring * sides + k % sides

    found = []
    for k in range(sides):
        found += [[0, at(0, k), at(0, k + 1)], [1 + rings * sides, at(rings - 1, k + 1), at(rings - 1, k)]]
        for ring in range(rings - 1):
            found += [[at(ring, k), at(ring + 1, k), at(ring, k + 1)],
                      [at(ring, k + 1), at(ring + 1, k), at(ring + 1, k + 1)]]
    return map_of_rings(found)


def side(one, other, third):
    """Above 0 where the third lies at the left of going from one to other."""
    return (other[0] - one[0]) * (third[1] - one[1]) - (other[1] - one[1]) * (third[0] - one[0])


def above(three, point):
    """Above 0 where the point lies where the three are seen to go round to the left from, 0 where on their plane."""
    first, second, third = [[point[k] - corner[k] for k in range(3)] for corner in three]
    across = second[1] * third[2] - second[2] * third[1]
    up = second[2] * third[0] - second[0] * third[2]
    high = second[0] * third[1] - second[1] * third[0]
    return first[0] * across + first[1] * up + first[2] * high


def off_plane(three):
    """A point from which the three are seen to go round to the left."""
    first = three[0]
    one, other = [[corner[k] - first[k] for k in range(3)] for corner in three[1:]]
    return (first[0] + one[1] * other[2] - one[2] * other[1], first[1] + one[2] * other[0] - one[0] * other[2],
            first[2] + one[0] * other[1] - one[1] * other[0])


def ring_steps(ring):
    return [(ring[k - 1], place) for k, place in enumerate(ring)]


def check_land(case, points, ring):
    """The ring is a whole land of the solid of the points, seen from outside."""
    three = [points[number] for number in ring[:3]]
    outside = off_plane(three)
    heights = [above(three, point) for point in points]
    case.assertEqual(max(heights), 0)
    case.assertLess(min(heights), 0)
    for one, other in ring_steps(ring):
        for number, point in enumerate(points):
            if heights[number] == 0:
                # The plane through the edge and a point outside has the land at one side, at the left of the edge.
                beyond = above((points[one], points[other], outside), point)
                case.assertLessEqual(beyond, 0)
                if number in ring and number not in (one, other):
                    case.assertLess(beyond, 0)
            else:
                case.assertNotIn(number, ring)


def check_lands(case, points, rings):
    """The rings are all lands of the solid of the points: each a land, and beyond each edge of one lies another."""
    gone = []
    for ring in rings:
        check_land(case, points, ring)
        case.assertEqual([points.index(points[number]) for number in ring], ring)
        gone += ring_steps(ring)
    case.assertEqual(len(set(gone)), len(gone))
    case.assertEqual(sorted(gone), sorted((there, here) for here, there in gone))
    case.assertEqual(rings, sorted(least_begin(ring) for ring in rings))


def crosses(one, other):
    """Whether two straight ties between spots in general position cross; ties with a spot in common don't."""
    if set(one) & set(other):
        return False
    return (side(*one, other[0]) > 0) != (side(*one, other[1]) > 0) and \
        (side(*other, one[0]) > 0) != (side(*other, one[1]) > 0)


def scattered(seed, places):
    """The spots, ties and map of a drawing: three far spots, others within, and ties as long as none crosses.

    All lands have three corners, so no two places part it.
    """
    across, up = numbers(seed, -1000, 1000), numbers(seed + 1000, -1000, 1000)
    spots = [(-9001, -5003), (9007, -5009), (11, 10007)]
    while len(spots) < places:
        spot = (next(across), next(up))
        if all(side(one, other, spot) != 0 for one, other in itertools.combinations(spots, 2)):
            spots.append(spot)
    picks = numbers(seed + 2000, 0, 10 ** 9)
    pairs = []
    for pair in sorted(itertools.combinations(range(places), 2), key=lambda pair: next(picks)):
        tie = (spots[pair[0]], spots[pair[1]])
        if not any(crosses(tie, (spots[one], spots[other])) for one, other in pairs):
            pairs.append(pair)
    return spots, pairs, drawn_map(spots, pairs)


def thinned(seed, places):
    """A scattered map without as many of its ties as may go so that no two places part it."""
    spots, pairs, orders = scattered(seed, places)
    for pair in pairs[::-1]:
        fewer = drawn_map(spots, [other for other in pairs if other != pair])
        if slow_parting(fewer) is None:
            pairs = [other for other in pairs if other != pair]
            orders = fewer
    return orders


def reached(orders, start, without=()):
    """The places come to from a place, without some."""
    found = {start}
    fresh = [start]
    while fresh:
        fresh = [other for place in fresh for other in orders[place]]
        fresh = sorted(set(fresh) - found - set(without))
        found |= set(fresh)
    return found


def slow_parting(orders):
    """What point 14 tells, list by list."""
    places = range(len(orders))
    for size in range(3):
        for picked in itertools.combinations(places, size):
            left = [place for place in places if place not in picked]
            if left and len(reached(orders, left[0], picked)) < len(left):
                return list(picked)
    return None


def any_map(seed, places, often):
    """Some map, mostly on no sheet: so many of a hundred ties that may be there are there, the orders as they come."""
    picks = numbers(seed, 0, 10 ** 6)
    pairs = [pair for pair in itertools.combinations(range(places), 2) if next(picks) % 100 < often]
    orders = [[] for place in range(places)]
    for one, other in pairs:
        orders[one].append(other)
        orders[other].append(one)
    return [sorted(order, key=lambda neighbour: next(picks)) for order in orders]


def shuffled(seed, places):
    picks = numbers(seed, 0, 10 ** 9)
    return sorted(range(places), key=lambda place: next(picks))


def as_numbers(spot):
    """A spot or point as a tuple of Python's own fractions."""
    return tuple(Fraction(*number) for number in spot)


def scaled(points):
    """Spots or points of the program's own fractions as tuples of whole numbers, all made larger by one number."""
    size = lcm(*[bottom for point in points for top, bottom in point])
    return [tuple(top * (size // bottom) for top, bottom in point) for point in points]


def as_spot(numbers_given):
    """A spot or point of the program's own fractions."""
    return tuple((Fraction(number).numerator, Fraction(number).denominator) for number in numbers_given)


def as_spots(several):
    return [as_spot(spot) for spot in several]


def round_about(places):
    """A ring of so many places, two or more ties in all."""
    return [[(place - 1) % places, (place + 1) % places] for place in range(places)]


def path(places):
    return [[other for other in (place - 1, place + 1) if 0 <= other < places] for place in range(places)]


def beside(*several):
    """One map of several parts, numbered one behind the other."""
    orders = []
    for part in several:
        start = len(orders)
        orders += [[neighbour + start for neighbour in order] for order in part]
    return orders


def small_maps(places):
    """Every map of so many places, each order begun at its least neighbour."""
    pairs = list(itertools.combinations(range(places), 2))
    for picked in itertools.product([False, True], repeat=len(pairs)):
        there = [pair for pair, taken in zip(pairs, picked) if taken]
        neighbours = [[other for other in range(places) if tuple(sorted((place, other))) in there]
                      for place in range(places)]
        choices = [[order[:1] + list(rest) for rest in itertools.permutations(order[1:])] for order in neighbours]
        for orders in itertools.product(*choices):
            yield [list(order) for order in orders]
