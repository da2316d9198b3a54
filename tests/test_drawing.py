"""Points 2, 3, 17 and 18: drawings by middles, right drawings, and the land at a spot."""

import itertools
import unittest
from fractions import Fraction

from standup.drawing import drawn, land_at, right
from standup.errors import NoFrame, NoLand, NoMap, NoSheet, Parted
from standup.maps import count, lands
from tests.helper import (ALONE, BOW, CUBE, EACH_TO_EACH, FOUR, FOUR_LANDS, SPUR, STAR, TUBE, as_numbers, as_spot,
                          as_spots, barrel, beside, check_own, check_points, grid, numbers, path, prism, refused,
                          round_about, scattered, side, thinned, told, wheel)

OCTAHEDRON = barrel(4, 1)
TIGHT = [FOUR, CUBE, OCTAHEDRON, barrel(5, 2), barrel(3, 2), wheel(4), wheel(7), prism(3), prism(5), prism(6),
         scattered(1, 9)[2], scattered(2, 14)[2], thinned(2, 10), thinned(4, 13), thinned(7, 16)]
# A frame of five corners that go round twice, with a turn to the right at each.
STAR_SHAPE = [(0, 5), (3, -4), (-5, 2), (5, 2), (-3, -4)]
FIVE = [(0, 5), (5, 2), (3, -4), (-3, -4), (-5, 2)]


def goes_round(spots, way):
    """Once round, to the left (1) or to the right (-1), with a turn that way at each corner.

    The way that one looks passes from the upper half to the under one and back once in each turn round.
    """
    ways = [(there[0] - here[0], there[1] - here[1]) for here, there in zip(spots[-1:] + spots, spots)]
    turns = [one[0] * other[1] - one[1] * other[0] for one, other in zip(ways[-1:] + ways, ways)]
    halves = [step[1] > 0 or (step[1] == 0 and step[0] > 0) for step in ways]
    changes = sum(one != other for one, other in zip(halves[-1:] + halves, halves))
    return all(turn * way > 0 for turn in turns) and changes == 2


def slow_right(orders, land, spots):
    return all(goes_round([spots[place] for place in ring], -1 if number == land else 1)
               for number, ring in enumerate(lands(orders)))


def twice_the_area(corners):
    return sum(one[0] * other[1] - one[1] * other[0] for one, other in zip(corners[-1:] + corners, corners))


def on_line(one, other, spot):
    between = min(one, other) <= spot <= max(one, other)
    return side(one, other, spot) == 0 and between


def slow_inside(corners, spot):
    """Whether a ray to the right crosses the ring an odd number of times, and the spot is not on it."""
    pairs = list(zip(corners[-1:] + corners, corners))
    if any(on_line(one, other, spot) for one, other in pairs):
        return False
    crossed = 0
    for one, other in pairs:
        if (one[1] > spot[1]) != (other[1] > spot[1]):
            across = one[0] + (spot[1] - one[1]) * (other[0] - one[0]) / Fraction(other[1] - one[1])
            crossed += across > spot[0]
    return crossed % 2 == 1


def some_frame(corners, seed=0):
    """Spots on a circle, to the right: so each of them is a turn."""
    shares = [Fraction(k * 7 - 3 * corners + seed, corners + 2) for k in range(corners)]
    return [as_spot((2 * share / (1 + share * share), (1 - share * share) / (1 + share * share))) for share in shares]


class Drawings(unittest.TestCase):
    def check_drawing(self, orders, land, spots, frame):
        """The drawing is what point 17 tells, and so it is right and fills the frame."""
        check_points(self, spots, len(orders), 2)
        ring = lands(orders)[land]
        self.assertEqual([spots[place] for place in ring], frame)
        exact = [as_numbers(spot) for spot in spots]
        for place, order in enumerate(orders):
            if place not in ring:
                for k in (0, 1):
                    self.assertEqual(exact[place][k] * len(order), sum(exact[neighbour][k] for neighbour in order))
        self.assertTrue(slow_right(orders, land, exact))
        self.assertIs(told(self, right, orders, land, spots), True)
        areas = [twice_the_area([exact[place] for place in ring]) for ring in lands(orders)]
        self.assertEqual(sum(areas), 0)


class Drawn(Drawings):
    def test_by_hand(self):
        self.assertEqual(drawn(FOUR, 1), [((2, 1), (4, 1)), ((0, 1), (0, 1)), ((1, 1), (1, 1)), ((1, 1), (5, 3))])
        frame = as_spots([(0, 0), (0, 4), (4, 0)])
        self.assertEqual(drawn(FOUR, 1, frame), [((0, 1), (0, 1)), ((4, 1), (0, 1)), ((0, 1), (4, 1)),
                                                 ((4, 3), (4, 3))])
        square = as_spots([(0, 0), (0, 3), (3, 3), (3, 0)])
        self.assertEqual(drawn(CUBE, 1, square), as_spots([(0, 0), (3, 0), (3, 3), (0, 3), (1, 1), (2, 1), (2, 2),
                                                           (1, 2)]))

    def test_the_frame_where_none_is_handed_in(self):
        for orders in TIGHT:
            for land, ring in enumerate(lands(orders)):
                frame = [as_spot((k, k * k)) for k in range(len(ring))][::-1]
                spots = told(self, drawn, orders, land)
                self.check_drawing(orders, land, spots, frame)
                self.assertEqual(spots[ring[-1]], ((0, 1), (0, 1)))
                self.assertEqual(spots[ring[-2]], ((1, 1), (1, 1)))
                self.assertEqual(drawn(orders, land, None), spots)
                self.assertEqual(drawn(orders, land, frame), spots)

    def test_a_frame_corner_by_corner(self):
        for orders in TIGHT:
            for land, ring in enumerate(lands(orders)):
                frame = some_frame(len(ring), land)
                self.check_drawing(orders, land, told(self, drawn, orders, land, frame), frame)

    def test_the_frame_begun_elsewhere_is_another_drawing(self):
        frame = as_spots([(0, 0), (0, 4), (4, 0)])
        for step in range(3):
            begun = frame[step:] + frame[:step]
            spots = drawn(FOUR, 1, begun)
            self.assertEqual([spots[place] for place in FOUR_LANDS[1]], begun)

    def test_a_frame_pushed_and_stretched(self):
        orders = thinned(4, 13)
        for land, ring in enumerate(lands(orders)):
            frame = some_frame(len(ring))
            moved = [as_spot((3 * x - y + 7, x + 5 * y - 2)) for x, y in map(as_numbers, frame)]
            expected = [as_spot((3 * x - y + 7, x + 5 * y - 2)) for x, y in map(as_numbers, drawn(orders, land, frame))]
            self.assertEqual(drawn(orders, land, moved), expected)

    def test_sixty_places(self):
        for orders in (scattered(3, 60)[2], prism(30), wheel(59), barrel(29, 2), barrel(5, 11), barrel(3, 19)):
            longest = max(range(len(lands(orders))), key=lambda land: len(lands(orders)[land]))
            for land in (0, longest):
                ring = lands(orders)[land]
                frame = [as_spot((k, k * k)) for k in range(len(ring))][::-1]
                self.check_drawing(orders, land, drawn(orders, land), frame)

    def test_numbers_of_many_figures(self):
        great = 10 ** 400 + 9
        frame = as_spots([(-great, Fraction(1, great)), (Fraction(3, great + 2), Fraction(great, 7)),
                          (Fraction(great, 11), Fraction(-great * great, great - 10))])
        for orders in (FOUR, OCTAHEDRON, scattered(1, 9)[2], scattered(5, 40)[2]):
            self.check_drawing(orders, 2, told(self, drawn, orders, 2, frame), frame)
        tiny = as_spots([(Fraction(2, great), Fraction(4, great)), (Fraction(1, great), Fraction(1, great)), (0, 0)])
        small = [as_spot(Fraction(number) / great for number in as_numbers(spot)) for spot in drawn(FOUR, 1)]
        self.assertEqual(drawn(FOUR, 1, tiny), small)


class Refused(unittest.TestCase):
    def test_no_map(self):
        for orders, place in (([[0]], 0), ([[1], []], 0), ([[1], [0, 1]], 1), ([[1], [0], [3]], 2), ([[-1], [0]], 0),
                              (FOUR[:3] + [[2, 0, 1, 1]], 3), (CUBE + [[8]], 8)):
            for land in (0, -1, 99):
                self.assertEqual(refused(self, NoMap, drawn, orders, land).place, place)
                self.assertEqual(refused(self, NoMap, drawn, orders, land, []).place, place)

    def test_no_sheet(self):
        wrong = [[1, 2, 3], [0, 2, 3], [0, 1, 3], [0, 1, 2]]
        for orders, number in ((TUBE, 0), (wrong, 0), (five_each(), -2), (EACH_TO_EACH, count(EACH_TO_EACH))):
            for land in (0, -1, 99):
                self.assertEqual(refused(self, NoSheet, drawn, orders, land).count, number)
                self.assertEqual(refused(self, NoSheet, drawn, orders, land, []).count, number)

    def test_no_sheet_as_it_does_not_hang_together(self):
        for orders in ([[], []], beside(FOUR, FOUR), beside(CUBE, ALONE), beside(TUBE, ALONE),
                       beside(path(2), path(2))):
            for land in (0, -1, 99):
                self.assertIsNone(refused(self, NoSheet, drawn, orders, land).count)

    def test_parted(self):
        for orders, places in ((path(3), [1]), (path(4), [1]), (STAR, [0]), (BOW, [0]), (SPUR, [1]),
                               (round_about(4), [0, 2]), (grid(4, 3)[2], [1, 4]), (round_about(60), [0, 2])):
            for land in (0, -1, 99):
                self.assertEqual(refused(self, Parted, drawn, orders, land).places, places)
                self.assertEqual(refused(self, Parted, drawn, orders, land, []).places, places)

    def test_fewer_than_four_places_that_nothing_parts(self):
        for orders, places in ((ALONE, [0]), (path(2), [0, 1]), (round_about(3), [0, 1, 2])):
            for land in (0, -1, 99):
                error = refused(self, Parted, drawn, orders, land)
                self.assertEqual(error.places, places)
                self.assertIs(type(error.places), list)

    def test_no_land(self):
        for orders in (FOUR, CUBE, prism(5)):
            many = len(lands(orders))
            for land in (-1, -many, -many - 1, many, many + 1, 10 ** 5000, -(10 ** 5000)):
                refused(self, NoLand, drawn, orders, land)
                refused(self, NoLand, drawn, orders, land, [])
                refused(self, NoLand, drawn, orders, land, some_frame(3))

    def check_no_frame(self, orders, land, frame):
        refused(self, NoFrame, drawn, orders, land, as_spots(frame))

    def test_too_few_or_too_many_corners(self):
        for corners in (0, 1, 2, 4, 5):
            refused(self, NoFrame, drawn, FOUR, 0, some_frame(corners))
        for corners in (0, 1, 2, 3, 5, 8):
            refused(self, NoFrame, drawn, CUBE, 0, some_frame(corners))

    def test_to_the_left(self):
        self.check_no_frame(FOUR, 1, [(0, 0), (4, 0), (0, 4)])
        for orders in TIGHT:
            for land, ring in enumerate(lands(orders)):
                refused(self, NoFrame, drawn, orders, land, some_frame(len(ring))[::-1])

    def test_twice_round(self):
        five = [land for land, ring in enumerate(lands(prism(5))) if len(ring) == 5]
        six = [land for land, ring in enumerate(lands(prism(6))) if len(ring) == 6]
        for land in five:
            self.check_no_frame(prism(5), land, STAR_SHAPE)
            self.check_no_frame(prism(5), land, STAR_SHAPE[::-1])
            self.assertEqual(len(drawn(prism(5), land, as_spots(FIVE))), 10)
        for land in six:
            self.check_no_frame(prism(6), land, [(0, 0), (0, 4), (4, 0)] * 2)
            self.check_no_frame(prism(6), land, [(0, 0), (0, 4), (4, 0), (1, 1), (1, 3), (5, 1)])

    def test_straight_on_at_a_corner(self):
        self.check_no_frame(FOUR, 1, [(0, 0), (1, 1), (2, 2)])
        self.check_no_frame(FOUR, 1, [(0, 0), (2, 2), (1, 1)])
        for step in range(4):
            frame = [(0, 0), (0, 4), (2, 2), (4, 0)]
            self.check_no_frame(CUBE, 1, frame[step:] + frame[:step])

    def test_alike_spots(self):
        self.check_no_frame(FOUR, 1, [(0, 0), (0, 0), (0, 0)])
        self.check_no_frame(FOUR, 1, [(0, 0), (0, 0), (1, 0)])
        for step in range(4):
            for frame in ([(0, 0), (0, 4), (0, 4), (4, 0)], [(0, 0), (0, 4), (4, 0), (0, 4)],
                          [(0, 0), (0, 4), (0, 0), (4, 0)]):
                self.check_no_frame(CUBE, 1, frame[step:] + frame[:step])

    def test_a_turn_to_the_left_at_one_corner(self):
        for step in range(4):
            frame = [(0, 0), (0, 4), (1, 1), (4, 0)]
            self.check_no_frame(CUBE, 1, frame[step:] + frame[:step])
            crossed = [(0, 0), (4, 4), (4, 0), (0, 4)]
            self.check_no_frame(CUBE, 1, crossed[step:] + crossed[:step])

    def test_every_frame_of_few_spots(self):
        for orders, spots in ((FOUR, grid(3, 3)[0]), (prism(3), grid(3, 2)[0])):
            for land, ring in list(enumerate(lands(orders)))[:2]:
                for picked in itertools.product(spots, repeat=len(ring)):
                    if goes_round(list(picked), -1):
                        found = drawn(orders, land, as_spots(picked))
                        self.assertEqual([found[place] for place in ring], as_spots(picked))
                    else:
                        self.check_no_frame(orders, land, picked)

    def test_frames_close_to_a_straight_one(self):
        great = 10 ** 200
        refused(self, NoFrame, drawn, FOUR, 1, [((0, 1), (0, 1)), ((1, 2), (1, 2)), ((1, 1), (1, 1))])
        near = [((0, 1), (0, 1)), as_spot((Fraction(1, 2), Fraction(1, 2) + Fraction(1, great))), ((1, 1), (1, 1))]
        self.assertEqual(drawn(FOUR, 1, near)[2], near[1])
        refused(self, NoFrame, drawn, FOUR, 1, near[::-1])


def five_each():
    """Five places, each tied to each, the orders as the numbers stand: it lies on no sheet."""
    return [[other for other in range(5) if other != place] for place in range(5)]


class Right(unittest.TestCase):
    def check_right(self, orders, land, spots, expected):
        self.assertIs(told(self, right, orders, land, as_spots(spots)), expected)
        self.assertIs(slow_right(orders, land, [as_numbers(as_spot(spot)) for spot in spots]), expected)

    def test_three_places(self):
        three = round_about(3)
        self.assertEqual(lands(three), [[0, 1, 2], [0, 2, 1]])
        self.check_right(three, 1, [(0, 0), (1, 0), (0, 1)], True)
        self.check_right(three, 0, [(0, 0), (1, 0), (0, 1)], False)
        self.check_right(three, 0, [(0, 0), (0, 1), (1, 0)], True)
        self.check_right(three, 1, [(0, 0), (0, 1), (1, 0)], False)

    def test_flat_and_alike(self):
        three = round_about(3)
        for land in (0, 1):
            self.check_right(three, land, [(0, 0), (1, 1), (2, 2)], False)
            self.check_right(three, land, [(0, 0), (1, 1), (1, 1)], False)
            self.check_right(three, land, [(3, 3), (3, 3), (3, 3)], False)

    def test_twice_round(self):
        five = round_about(5)
        self.assertEqual(lands(five)[0], [0, 1, 2, 3, 4])
        self.check_right(five, 0, FIVE, True)
        self.check_right(five, 1, FIVE[::-1], True)
        for land in (0, 1):
            self.check_right(five, land, STAR_SHAPE, False)
            self.check_right(five, land, STAR_SHAPE[::-1], False)
            self.check_right(round_about(6), land, [(0, 0), (0, 4), (4, 0)] * 2, False)
            self.check_right(round_about(6), land, [(0, 0), (4, 0), (0, 4)] * 2, False)

    def test_every_drawing_of_four_places_on_few_spots(self):
        for picked in itertools.product(grid(3, 3)[0], repeat=4):
            for land in (0, 1):
                expected = slow_right(round_about(4), land, list(picked))
                self.assertIs(right(round_about(4), land, as_spots(picked)), expected)

    def test_a_place_within(self):
        outer = [(0, 0), (4, 0), (0, 4)]
        for spot in grid(6, 6)[0]:
            inside = spot[0] > 0 and spot[1] > 0 and spot[0] + spot[1] < 4
            self.check_right(FOUR, 1, outer + [spot], inside)
        self.check_right(FOUR, 0, outer + [(1, 1)], False)
        # Another land outside: place 2 lies within the others.
        self.check_right(FOUR, 0, [(0, 0), (5, 1), (2, 1), (1, 5)], False)
        self.check_right(FOUR, 0, [(0, 0), (1, 5), (2, 2), (5, 1)], True)

    def test_a_land_turned_about(self):
        square = [(0, 0), (9, 0), (9, 9), (0, 9)]
        self.check_right(CUBE, 1, square + [(3, 3), (6, 3), (6, 6), (3, 6)], True)
        self.check_right(CUBE, 1, square + [(3, 3), (3, 6), (6, 6), (6, 3)], False)
        self.check_right(CUBE, 1, square + [(6, 6), (3, 6), (3, 3), (6, 3)], False)
        self.check_right(CUBE, 1, square + [(3, 3), (6, 3), (6, 6), (4, 5)], True)
        # 7 pushed in so that the middle land has no turn, or a turn to the right, there.
        self.check_right(CUBE, 1, square + [(3, 2), (6, 3), (6, 5), (4, 4)], True)
        self.check_right(CUBE, 1, square + [(2, 3), (6, 3), (6, 5), (4, 4)], False)
        self.check_right(CUBE, 1, square + [(2, 3), (6, 2), (6, 6), (5, 4)], False)
        self.check_right(CUBE, 5, square + [(3, 3), (6, 3), (6, 6), (3, 6)], False)
        self.check_right(CUBE, 1, square[::-1] + [(3, 3), (6, 3), (6, 6), (3, 6)], False)
        self.check_right(CUBE, 1, [(y, x) for x, y in square + [(3, 3), (6, 3), (6, 6), (3, 6)]], False)

    def test_maps_that_have_no_right_drawing(self):
        picks = numbers(5, -9, 9)
        for orders in (path(2), path(3), STAR, BOW, SPUR, TUBE, beside(round_about(3), round_about(3)), five_each()):
            for land in range(len(lands(orders))):
                for again in range(5):
                    self.check_right(orders, land, [(next(picks), next(picks)) for place in orders], False)
        self.check_right(path(2), 0, [(0, 0), (1, 0)], False)
        self.check_right(BOW, 1, [(0, 0), (2, 1), (1, 2), (-2, -1), (-1, -2)], False)
        # Each land but the outer one is convex; the outer one has place 0 twice.
        self.assertEqual(lands(BOW)[1], [0, 2, 1, 0, 4, 3])

    def test_straight_corners_of_the_outer_land(self):
        spots, pairs, orders = grid(3, 3)
        outer = [land for land, ring in enumerate(lands(orders)) if len(ring) > 4][0]
        self.check_right(orders, outer, spots, False)
        half = Fraction(1, 2)
        bent = {1: (1, -half), 3: (-half, 1), 5: (2 + half, 1), 7: (1, 2 + half)}
        self.check_right(orders, outer, [bent.get(place, spot) for place, spot in enumerate(spots)], True)

    def test_scattered_drawings_and_one_place_elsewhere(self):
        for seed in range(6):
            spots, pairs, orders = scattered(seed, 12)
            outer = lands(orders).index([0, 2, 1])
            self.check_right(orders, outer, spots, True)
            for place in range(3, 12):
                for other in range(3, 12):
                    moved = spots[:place] + [spots[other]] + spots[place + 1:]
                    self.check_right(orders, outer, moved, place == other)
            for land in range(len(lands(orders))):
                self.check_right(orders, land, spots, land == outer)

    def test_scattered_drawings_and_one_place_moved(self):
        answers = set()
        for seed in range(6):
            spots, pairs, orders = scattered(seed, 10)
            outer = lands(orders).index([0, 2, 1])
            moves = numbers(seed, -400, 400)
            for place in range(3, 10):
                for again in range(6):
                    moved = list(spots)
                    moved[place] = (spots[place][0] + next(moves), spots[place][1] + next(moves))
                    expected = slow_right(orders, outer, moved)
                    answers.add(expected)
                    self.check_right(orders, outer, moved, expected)
        self.assertEqual(answers, {True, False})

    def test_numbers_of_many_figures(self):
        great = 10 ** 600 + 1
        spots = [((0, 1), (0, 1)), ((great, 1), (0, 1)), ((1, great), (great, 1)), ((1, great), (1, great))]
        self.assertIs(right(FOUR, 1, spots), True)
        self.assertIs(right(FOUR, 1, spots[:3] + [((1, great), (0, 1))]), False)
        self.assertIs(right(FOUR, 1, spots[:3] + [((0, 1), (0, 1))]), False)


class LandAt(unittest.TestCase):
    def check_at(self, orders, land, spots, spot):
        exact = [as_numbers(one) for one in spots]
        within = [number for number, ring in enumerate(lands(orders))
                  if number != land and slow_inside([exact[place] for place in ring], as_numbers(spot))]
        self.assertLessEqual(len(within), 1)
        expected = within[0] if within else None
        self.assertEqual(told(self, land_at, orders, land, spots, spot), expected)
        return expected

    def test_by_hand(self):
        spots = as_spots([(0, 0), (6, 0), (0, 6), (2, 2)])
        for spot, expected in (((2, 1), 0), ((1, 2), 2), ((3, 2), 3), ((1, 1), None), ((2, 2), None), ((0, 0), None),
                               ((3, 0), None), ((3, 3), None), ((4, 4), None), ((-1, 2), None), ((2, -1), None)):
            self.assertEqual(told(self, land_at, FOUR, 1, spots, as_spot(spot)), expected)
        self.assertEqual(land_at(FOUR, 1, spots, as_spot((Fraction(1, 9), Fraction(1, 10)))), 0)

    def test_inside_each_land_on_each_tie_at_each_place_and_outside(self):
        for orders in TIGHT:
            rings = lands(orders)
            for land in (0, len(rings) - 1):
                spots = drawn(orders, land)
                exact = [as_numbers(spot) for spot in spots]
                for number, ring in enumerate(rings):
                    if number != land:
                        corners = [exact[place] for place in ring]
                        middle = as_spot(sum(numbers_there) / len(ring) for numbers_there in zip(*corners))
                        self.assertEqual(land_at(orders, land, spots, middle), number)
                    for k, place in enumerate(ring):
                        for share in (Fraction(0), Fraction(1, 2), Fraction(1, 97)):
                            one, other = exact[place], exact[ring[k - 1]]
                            on_tie = as_spot(a + share * (b - a) for a, b in zip(one, other))
                            self.assertIsNone(land_at(orders, land, spots, on_tie))
                for far in ((-1, 0), (0, -1), (10 ** 9, 5), (2, 10 ** 9), (Fraction(-1, 10 ** 9), 0)):
                    self.assertIsNone(land_at(orders, land, spots, as_spot(far)))

    def test_any_spot(self):
        for seed in range(4):
            spots, pairs, orders = scattered(seed, 12)
            outer = lands(orders).index([0, 2, 1])
            picks = numbers(seed, -1500, 1500)
            found = [self.check_at(orders, outer, as_spots(spots), as_spot((next(picks), next(picks))))
                     for again in range(60)]
            self.assertGreater(len(set(found)), 5)

    def test_spots_on_a_line_of_drawings_by_middles(self):
        for orders in (CUBE, prism(5), thinned(4, 13)):
            spots = drawn(orders, 1)
            high = max(as_numbers(spot)[0] for spot in spots)
            for k in range(-2, 25):
                across = high * k / 22
                self.check_at(orders, 1, spots, as_spot((across, across * across + across / 7)))

    def test_sixty_places(self):
        orders = prism(30)
        longest = max(range(32), key=lambda land: len(lands(orders)[land]))
        spots = drawn(orders, longest)
        for k in range(0, 29):
            self.check_at(orders, longest, spots, as_spot((Fraction(2 * k + 1, 2), k * k + k + 1)))

    def test_numbers_of_many_figures(self):
        spots = as_spots([(0, 0), (6, 0), (0, 6), (2, 2)])
        great = 10 ** 500
        self.assertEqual(land_at(FOUR, 1, spots, as_spot((2, 2 - Fraction(1, great)))), 0)
        self.assertEqual(land_at(FOUR, 1, spots, as_spot((2 - Fraction(1, great), 2))), 2)
        self.assertEqual(land_at(FOUR, 1, spots, as_spot((2 + Fraction(1, great), 2 + Fraction(1, great)))), 3)
        self.assertIsNone(land_at(FOUR, 1, spots, as_spot((great, great))))


class Own(unittest.TestCase):
    def test_told_lists_are_the_askers_own(self):
        check_own(self, drawn, FOUR, 1)
        check_own(self, drawn, CUBE, 2)
        check_own(self, drawn, CUBE, 2, some_frame(4))

    def test_what_is_done_later_does_not_reach_what_was_told(self):
        orders = [order[:] for order in CUBE]
        frame = some_frame(4)
        found = drawn(orders, 0, frame)
        frame.clear()
        for order in orders:
            order.clear()
        self.assertEqual(found, drawn(CUBE, 0, some_frame(4)))

    def test_what_a_refusal_keeps_is_the_askers_own(self):
        refused(self, Parted, drawn, round_about(3), 0).places.clear()
        self.assertEqual(refused(self, Parted, drawn, round_about(3), 0).places, [0, 1, 2])
        refused(self, Parted, drawn, round_about(4), 0).places.append(9)
        self.assertEqual(refused(self, Parted, drawn, round_about(4), 0).places, [0, 2])


if __name__ == "__main__":
    unittest.main()
