"""Points 2, 3, 20, 21 and 22: the lands of solids, their maps, and solids turned over."""

import itertools
import unittest
from fractions import Fraction

from standup.changes import alike, other_map
from standup.errors import Flat, NotInside
from standup.maps import count, hangs, lands, looked
from standup.parting import parting
from standup.solids import solid_lands, solid_map, turned_over
from tests.helper import (CUBE, above, as_numbers, as_spots, barrel, check_lands, check_own, check_points, numbers,
                          prism, refused, shuffled, told)

TETRAHEDRON = [(0, 0, 0), (1, 0, 0), (0, 1, 0), (0, 0, 1)]
BOX = list(itertools.product((-1, 1), repeat=3))
BOX_LANDS = [[0, 1, 3, 2], [0, 2, 6, 4], [0, 4, 5, 1], [1, 5, 7, 3], [2, 3, 7, 6], [4, 6, 7, 5]]
OCTAHEDRON = [(1, 0, 0), (-1, 0, 0), (0, 1, 0), (0, -1, 0), (0, 0, 1), (0, 0, -1)]
OCTAHEDRON_LANDS = [[0, 2, 4], [0, 3, 5], [0, 4, 3], [0, 5, 2], [1, 2, 5], [1, 3, 4], [1, 4, 2], [1, 5, 3]]
# A pyramid over five corners, with (0, 0, 0) inside.
PYRAMID = [(0, 0, 5), (4, 1, -1), (1, 4, -1), (-3, 3, -1), (-3, -2, -1), (2, -3, -1)]
PYRAMID_LANDS = [[0, 1, 2], [0, 2, 3], [0, 3, 4], [0, 4, 5], [0, 5, 1], [1, 5, 4, 3, 2]]
WEDGE = [(0, 0, 0), (4, 0, 0), (0, 3, 0), (0, 0, 5), (4, 0, 5), (0, 3, 5)]
WEDGE_LANDS = [[0, 1, 4, 3], [0, 2, 1], [0, 3, 5, 2], [1, 2, 5, 4], [3, 4, 5]]
# The twenty corners of a solid with twelve lands of five corners.
TWELVE = [(4 * x, 4 * y, 4 * z) for x, y, z in BOX] + \
    [point for one, other in itertools.product((-6, 6), (-3, 3)) for point in
     ((0, one, other), (one, other, 0), (other, 0, one))]
GRID = list(itertools.product(range(3), range(4), range(5)))
CURVE = [(k, k ** 2, k ** 3) for k in range(-30, 30)]
POLES = [(k, k * k, high) for high in (0, 7) for k in range(30)]

LINE = [(k, 2 * k, 3 * k) for k in range(5)]
SHEET = [(x, y, 3 * x - 2 * y + 1) for x in range(4) for y in range(4)]
FLAT = [[], [(0, 0, 0)], [(5, 6, 7)], [(0, 0, 0), (1, 2, 3)], [(1, 0, 0), (0, 1, 0), (0, 0, 1)], LINE, LINE[::-1],
        [(2, 2, k) for k in range(6)], [(2, k, 2) for k in range(6)], [(k, 2, 2) for k in range(6)], SHEET, SHEET[::-1],
        [(3, y, z) for y in range(3) for z in range(3)], [(x, 3, z) for x in range(3) for z in range(3)],
        [(x, y, 3) for x in range(3) for y in range(3)], [(x, x, z) for x in range(3) for z in range(3)],
        [(x, -x, z) for x in range(3) for z in range(3)], LINE + [(7, 1, 0)], [(7, 1, 0)] + LINE,
        [(0, 0, 0), (1, 0, 0), (0, 1, 0), (1, 1, 0)]]


def scattered_points(seed, many, size):
    picks = numbers(seed, -size, size)
    return [(next(picks), next(picks), next(picks)) for point in range(many)]


def long_points(seed, many):
    """Points with numbers of some fifty figures."""
    picks = numbers(seed, -10 ** 12, 10 ** 12)
    return [tuple(next(picks) * 10 ** 40 + next(picks) * 10 ** 20 + next(picks) for axis in range(3))
            for point in range(many)]


def is_flat(points):
    return all(above(four[:3], four[3]) == 0 for four in itertools.combinations(points, 4))


def moved(points, rows, off):
    return [tuple(sum(a * b for a, b in zip(row, point)) + away for row, away in zip(rows, off)) for point in points]


def told_lands(case, points):
    """The lands that are told of a solid, seen to be just its lands."""
    rings = told(case, solid_lands, as_spots(points))
    case.assertIs(type(rings), list)
    for ring in rings:
        case.assertIs(type(ring), list)
        case.assertEqual({type(number) for number in ring}, {int})
    check_lands(case, points, rings)
    return rings


def renumbered(rings, names):
    """The rings under other names, begun and put in order again."""
    found = []
    for ring in rings:
        named = [names[number] for number in ring]
        least = named.index(min(named))
        found.append(named[least:] + named[:least])
    return sorted(found)


class Lands(unittest.TestCase):
    def test_by_hand(self):
        for points, expected in ((TETRAHEDRON, [[0, 1, 3], [0, 2, 1], [0, 3, 2], [1, 2, 3]]), (BOX, BOX_LANDS),
                                 (OCTAHEDRON, OCTAHEDRON_LANDS), (PYRAMID, PYRAMID_LANDS), (WEDGE, WEDGE_LANDS)):
            self.assertEqual(told_lands(self, points), expected)

    def test_the_oracle_itself(self):
        for wrong in (BOX_LANDS[:5], [ring[::-1] for ring in BOX_LANDS], [[0, 1, 3, 2]] * 6, BOX_LANDS[::-1],
                      [[0, 1, 3]] + BOX_LANDS[1:], [[1, 3, 2, 0]] + BOX_LANDS[1:], [[0, 3, 1, 2]] + BOX_LANDS[1:],
                      BOX_LANDS[:5] + [[0, 1, 7]]):
            with self.assertRaises(AssertionError):
                check_lands(self, BOX, wrong)
        with self.assertRaises(AssertionError):
            check_lands(self, [(-1, -1, -1)] + BOX, renumbered(BOX_LANDS, list(range(1, 9))))

    def test_lands_of_many_corners(self):
        rings = told_lands(self, POLES)
        self.assertEqual(sorted(len(ring) for ring in rings), [4] * 30 + [30, 30])
        self.assertEqual([len(ring) for ring in told_lands(self, TWELVE)], [5] * 12)

    def test_points_that_are_no_corners(self):
        inner = [(0, 0, 0), (Fraction(1, 3), Fraction(-1, 7), Fraction(9, 10)), (1, 0, 0), (0, 0, -1), (0, 1, 1),
                 (1, 1, Fraction(1, 2)), (Fraction(99, 100), 1, 1), (-1, Fraction(1, 5), Fraction(1, 6)), (-1, -1, 0)]
        for place in range(9):
            names = [number + (len(inner) if number >= place else 0) for number in range(8)]
            rings = told_lands(self, BOX[:place] + inner + BOX[place:])
            self.assertEqual(rings, renumbered(BOX_LANDS, names))
        for many in range(1, len(inner) + 1):
            self.assertEqual(told_lands(self, BOX + inner[:many]), BOX_LANDS)

    def test_of_alike_points_the_first_ones_number_stands(self):
        self.assertEqual(told_lands(self, BOX + BOX), BOX_LANDS)
        self.assertEqual(told_lands(self, BOX + BOX[::-1] + [(0, 0, 0)] * 3), BOX_LANDS)
        doubled = [point for point in BOX for again in range(3)]
        self.assertEqual(told_lands(self, doubled), renumbered(BOX_LANDS, [3 * number for number in range(8)]))
        ahead = [(0, 0, 0), BOX[5], BOX[2], BOX[5]] + BOX
        names = [4, 5, 2, 7, 8, 1, 10, 11]
        self.assertEqual(told_lands(self, ahead), renumbered(BOX_LANDS, names))

    def test_points_in_any_order(self):
        for seed in range(12):
            for points, rings in ((BOX, BOX_LANDS), (PYRAMID, PYRAMID_LANDS), (OCTAHEDRON, OCTAHEDRON_LANDS),
                                  (WEDGE, WEDGE_LANDS)):
                order = shuffled(seed, len(points))
                names = [order.index(number) for number in range(len(points))]
                self.assertEqual(told_lands(self, [points[number] for number in order]), renumbered(rings, names))

    def test_solids_moved_and_mirrored(self):
        for points, rings in ((BOX, BOX_LANDS), (PYRAMID, PYRAMID_LANDS), (WEDGE, WEDGE_LANDS)):
            for rows in itertools.permutations([(1, 0, 0), (0, 1, 0), (0, 0, 1)]):
                for signs in BOX:
                    turned = [tuple(sign * number for number in row) for sign, row in zip(signs, rows)]
                    kept = above([(0, 0, 0)] + turned[:2], turned[2]) > 0
                    expected = rings if kept else renumbered([ring[::-1] for ring in rings], range(len(points)))
                    self.assertEqual(solid_lands(as_spots(moved(points, turned, (0, 0, 0)))), expected)
            slanted = moved(points, [(1, 2, 3), (0, 1, -4), (0, 0, 1)], (10, Fraction(-5, 3), 77))
            self.assertEqual(told_lands(self, slanted), rings)

    def test_many_figures_and_fractions(self):
        great = 10 ** 300 + 7
        for points, rings in ((BOX, BOX_LANDS), (PYRAMID, PYRAMID_LANDS), (WEDGE, WEDGE_LANDS)):
            for size in (great, Fraction(1, great), Fraction(great, 3 ** 400), -great ** 5 // -3):
                rows = [(size, 0, 0), (0, size + Fraction(1, 11), 0), (size * size, 0, Fraction(5, 7))]
                off = (great, Fraction(-1, great), Fraction(2 ** 900, 3 ** 500))
                self.assertEqual(told_lands(self, moved(points, rows, off)), rings)

    def test_points_that_lie_a_hair_beside(self):
        hair = Fraction(1, 10 ** 400)
        self.assertEqual(told_lands(self, BOX + [(0, 0, 1 - hair), (1, 1, 1 - hair), (hair - 1, 0, -1)]), BOX_LANDS)
        self.assertIn([1, 5, 8], told_lands(self, BOX + [(0, 0, 1 + hair)]))
        self.assertEqual(len(told_lands(self, BOX + [(0, 0, 1 + hair)])), 9)
        self.assertEqual(len(told_lands(self, BOX + [(0, 1 + hair, 1)])), 8)
        self.assertEqual(len(told_lands(self, BOX[:7] + [(1, 1, 1 - hair)])), 7)

    def test_few_points_near_one_another(self):
        solids = 0
        for seed in range(400):
            points = scattered_points(seed, 4 + seed % 9, 1 + seed % 2)
            if is_flat(points):
                refused(self, Flat, solid_lands, as_spots(points))
            else:
                solids += 1
                told_lands(self, points)
        self.assertGreater(solids, 300)

    def test_sixty_points(self):
        self.assertEqual(sorted(sum(told_lands(self, GRID), [])), sorted([0, 4, 15, 19, 40, 44, 55, 59] * 3))
        rings = told_lands(self, CURVE)
        self.assertEqual(len(rings), 116)
        self.assertEqual(sorted(set(sum(rings, []))), list(range(60)))
        for seed, size in ((1, 2), (2, 5), (3, 40), (4, 10 ** 6)):
            told_lands(self, scattered_points(seed, 60, size))
        told_lands(self, long_points(5, 60))
        split = numbers(6, 1, 10 ** 12)
        told_lands(self, [tuple(Fraction(number, next(split)) for number in point)
                          for point in scattered_points(7, 60, 10 ** 12)])


class Refused(unittest.TestCase):
    def test_flat(self):
        for call in (solid_lands, solid_map, turned_over):
            for points in FLAT:
                refused(self, Flat, call, as_spots(points))
                refused(self, Flat, call, as_spots(points + points))
                refused(self, Flat, call, as_spots([point for point in points for again in range(3)]))
                slanted = moved(points, [(1, 2, 3), (0, 1, -4), (0, Fraction(1, 9), 1)], (0, Fraction(1, 3), 7))
                refused(self, Flat, call, as_spots(slanted))

    def test_sixty_points_on_one_plane(self):
        great = 10 ** 100
        wide = [(x, y, great * x - y + 5) for x in range(6) for y in range(10)]
        refused(self, Flat, solid_lands, as_spots(wide))
        self.assertEqual(len(told_lands(self, wide[:59] + [(5, 9, great)])), 6)

    def test_not_flat_by_a_hair(self):
        hair = Fraction(1, 10 ** 300)
        for points in FLAT[4:]:
            if any(len(set(three)) == 3 and not is_flat(list(three) + [(97, 89, 83)])
                   for three in itertools.combinations(points, 3)):
                raised = [tuple(number + hair * k for k, number in zip((1, 5, 7), points[0]))] + points
                self.assertEqual(is_flat(raised), False)
                told_lands(self, raised)


class Maps(unittest.TestCase):
    def check_map(self, points):
        found = told(self, solid_map, as_spots(points))
        self.assertIs(type(found), tuple)
        corners, orders = found
        self.assertEqual([type(corners), type(orders)] + [type(order) for order in orders], [list] * (2 + len(corners)))
        rings = told_lands(self, points)
        self.assertEqual(corners, sorted(set(sum(rings, []))))
        self.assertEqual(renumbered(lands(orders), corners), rings)
        self.assertEqual(len(orders), len(corners))
        self.assertIsNone(looked(orders))
        self.assertIs(hangs(orders), True)
        self.assertEqual(count(orders), 2)
        self.assertIsNone(parting(orders))
        return corners, orders

    def test_by_hand(self):
        corners, orders = self.check_map(OCTAHEDRON)
        self.assertEqual(corners, [0, 1, 2, 3, 4, 5])
        begun = [order[order.index(min(order)):] + order[:order.index(min(order))] for order in orders]
        self.assertEqual(begun, [[2, 4, 3, 5], [2, 5, 3, 4], [0, 5, 1, 4], [0, 4, 1, 5], [0, 2, 1, 3], [0, 3, 1, 2]])

    def test_the_maps_of_known_solids(self):
        for points, orders in ((BOX, CUBE), (OCTAHEDRON, barrel(4, 1)), (WEDGE, prism(3)), (POLES, prism(30))):
            self.assertIsNotNone(alike(self.check_map(points)[1], orders))

    def test_places_stand_for_corners_alone(self):
        corners, orders = self.check_map([(0, 0, 0), BOX[3], (1, 0, 0)] + BOX + BOX + [(1, 1, 0)])
        self.assertEqual(corners, [1, 3, 4, 5, 7, 8, 9, 10])
        self.assertIsNotNone(alike(orders, CUBE))
        self.assertEqual(self.check_map(GRID)[0], [0, 4, 15, 19, 40, 44, 55, 59])

    def test_any_solid(self):
        for seed in range(150):
            points = scattered_points(seed, 5 + seed % 12, 1 + seed % 4)
            if not is_flat(points):
                self.check_map(points)

    def test_sixty_points(self):
        self.assertEqual(self.check_map(CURVE)[0], list(range(60)))
        self.check_map(scattered_points(1, 60, 6))
        self.check_map(long_points(2, 60))


class TurnedOver(unittest.TestCase):
    def check_over(self, points):
        rings = told_lands(self, points)
        over = told(self, turned_over, as_spots(points))
        check_points(self, over, len(rings), 3)
        for ring, point in zip(rings, over):
            exact = as_numbers(point)
            for number, other in enumerate(points):
                product = sum(a * b for a, b in zip(exact, other))
                if number in ring:
                    self.assertEqual(product, 1)
                elif above([points[corner] for corner in ring[:3]], other) < 0:
                    self.assertLess(product, 1)
        self.check_back(points, over)

    def check_back(self, points, over):
        """The corners come back, and the map of the solid turned over is the other map."""
        corners, orders = solid_map(as_spots(points))
        back = [as_numbers(point) for point in turned_over(over)]
        self.assertEqual(sorted(back), sorted(points[number] for number in corners))
        self.assertEqual(solid_map(over)[0], list(range(len(over))))
        turned = solid_map(over)[1]
        self.assertIsNotNone(alike(turned, other_map(orders)))
        self.assertEqual(lands(turned), solid_lands(over))

    def test_by_hand(self):
        self.assertEqual(turned_over(as_spots(BOX)), as_spots([(-1, 0, 0), (0, 0, -1), (0, -1, 0), (0, 0, 1),
                                                               (0, 1, 0), (1, 0, 0)]))
        self.assertEqual(turned_over(as_spots(OCTAHEDRON)), as_spots([(1, 1, 1), (1, -1, -1), (1, -1, 1), (1, 1, -1),
                                                                      (-1, 1, -1), (-1, -1, 1), (-1, 1, 1),
                                                                      (-1, -1, -1)]))
        self.assertEqual(turned_over(as_spots([(2 * x, 3 * y, 5 * z) for x, y, z in BOX])[::-1])[0],
                         ((0, 1), (1, 3), (0, 1)))

    def test_solids(self):
        for points in (BOX, OCTAHEDRON, PYRAMID, TWELVE, BOX + [(0, 0, 0), (1, 0, 0), (1, 1, 0)] + BOX,
                       moved(TETRAHEDRON, [(5, 0, 0), (0, 5, 0), (0, 0, 5)], (-1, -1, -1)),
                       moved(PYRAMID, [(1, 2, 3), (0, 1, -4), (0, 0, 1)], (0, 0, 0))):
            self.check_over(points)

    def test_any_solid(self):
        done = 0
        for seed in range(60):
            points = scattered_points(seed, 8 + seed % 12, 2 + seed % 9)
            middle = [Fraction(sum(numbers_there), len(points)) for numbers_there in zip(*points)]
            if not is_flat(points):
                done += 1
                self.check_over([tuple(a - b for a, b in zip(point, middle)) for point in points])
        self.assertGreater(done, 55)

    def test_sixty_points_and_many_figures(self):
        self.check_over([(x - 1, 2 * y - 3, z - 2) for x, y, z in GRID])
        self.check_over(scattered_points(1, 60, 10 ** 6))
        self.check_over(long_points(2, 60))
        great = 10 ** 200 + 3
        self.check_over([(x * great, Fraction(y, great), z + Fraction(x, great)) for x, y, z in TWELVE])

    def test_not_inside(self):
        hair = Fraction(1, 10 ** 300)
        for points in (BOX, OCTAHEDRON, PYRAMID, TWELVE, BOX + [(0, 0, 0), (1, 1, 0)]):
            rings = solid_lands(as_spots(points))
            for ring in rings:
                corners = [points[number] for number in ring]
                middle = [Fraction(sum(numbers_there), len(ring)) for numbers_there in zip(*corners)]
                edge = [Fraction(a + b, 2) for a, b in zip(corners[0], corners[1])]
                for off in (corners[0], edge, middle, [(1 + hair) * number for number in middle],
                            [3 * number for number in edge], (1000, 1000, -1000), (0, 0, 1000)):
                    away = [tuple(a - b for a, b in zip(point, off)) for point in points]
                    refused(self, NotInside, turned_over, as_spots(away))
                self.check_over([tuple(a - (1 - hair) * b for a, b in zip(point, middle)) for point in points])

    def test_not_inside_by_the_point_itself(self):
        refused(self, NotInside, turned_over, as_spots(TETRAHEDRON))
        refused(self, NotInside, turned_over, as_spots([(x + 1, y, z) for x, y, z in BOX]))
        refused(self, NotInside, turned_over, as_spots([(x + 1, y + 1, z) for x, y, z in BOX]))
        refused(self, NotInside, turned_over, as_spots([(x + 2, y, z) for x, y, z in BOX] + [(0, 0, 0)]))

    def test_flat_goes_first(self):
        for points in ([(0, 0, 0)], [(1, 0, 0), (-1, 1, 0), (-1, -1, 0)], [(5, 5, 5)] * 4, LINE, SHEET):
            refused(self, Flat, turned_over, as_spots(points))


class Own(unittest.TestCase):
    def test_told_lists_are_the_askers_own(self):
        for call in (solid_lands, solid_map, turned_over):
            for points in (BOX, OCTAHEDRON, PYRAMID, BOX + BOX + [(0, 0, 0)]):
                check_own(self, call, as_spots(points))

    def test_what_is_done_later_does_not_reach_what_was_told(self):
        for call in (solid_lands, solid_map, turned_over):
            points = as_spots(PYRAMID)
            found = call(points)
            points.clear()
            self.assertEqual(found, call(as_spots(PYRAMID)))


if __name__ == "__main__":
    unittest.main()
