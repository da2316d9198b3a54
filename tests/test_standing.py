"""Points 2, 3 and 23: maps stood up as solids."""

import unittest

from standup.changes import alike, mirrored, other_map, renamed, same, tied
from standup.errors import NoMap, NoSheet, Parted
from standup.maps import lands
from standup.solids import solid_map
from standup.standing import stood_up
from tests.helper import (BOW, CUBE, EACH_TO_EACH, FOUR, NO_MAPS, NO_SHEETS, PARTED, TUBE, barrel, beside, check_lands,
                          check_own, check_points, grid, map_of_rings, prism, refused, round_about, scaled, scattered,
                          shuffled, thinned, told, wheel)


def kites(sides):
    """Two places, so many ties from each, and all lands of four corners between them: no land has three."""
    top, bottom = 2 * sides, 2 * sides + 1
    rim = list(range(2 * sides))
    rings = [[top, rim[k - 2], rim[k - 1], rim[k]] for k in range(0, 2 * sides, 2)]
    rings += [[bottom, rim[k], rim[k - 1], rim[k - 2]] for k in range(1, 2 * sides, 2)]
    return map_of_rings(rings)


def tower(sides, floors):
    """Prisms on one another: with four sides or more no land has three corners."""
    rings = [[k for k in range(sides)][::-1], [floors * sides + k for k in range(sides)]]
    for floor in range(floors):
        low = [floor * sides + k for k in range(sides)]
        high = [place + sides for place in low]
        rings += [[low[k - 1], low[k], high[k], high[k - 1]] for k in range(sides)]
    return map_of_rings(rings)


def twelve():
    """Twelve lands of five corners."""
    return other_map(barrel(5, 2))


THREE = [FOUR, prism(3), wheel(4), wheel(7), barrel(4, 1), barrel(5, 2), scattered(1, 9)[2], thinned(2, 10),
         thinned(4, 13), other_map(thinned(7, 16))]
NO_THREE = [CUBE, prism(5), prism(6), kites(3), kites(4), kites(5), tower(4, 2), tower(5, 3), twelve()]
BIG = [scattered(3, 60)[2], wheel(59), barrel(29, 2), barrel(3, 19), prism(30), kites(29), tower(4, 14), tower(5, 11),
       tower(20, 2), other_map(barrel(6, 5)), other_map(scattered(5, 32)[2])]


def every_tight_map(most):
    """By their count of ties, all tight maps on a sheet, one of each that are alike, mirrored or not.

    Each one that is no wheel comes of one with a tie less by a tie put in, or its other map does.
    """
    found = {number: [] for number in range(6, most + 1)}
    for number in found:
        fresh = [wheel(number // 2)] if number % 2 == 0 else []
        for orders in found.get(number - 1, []):
            for land, ring in enumerate(lands(orders)):
                for one in range(len(ring)):
                    fresh += [tied(orders, land, one, other) for other in range(one) if 1 < one - other < len(ring) - 1]
        for orders in fresh + [other_map(orders) for orders in fresh]:
            known = [other for other in found[number] if len(other) == len(orders)]
            if not any(alike(orders, other) or alike(mirrored(orders), other) for other in known):
                found[number].append(orders)
    return found


class StoodUp(unittest.TestCase):
    def check_stood(self, orders):
        points = told(self, stood_up, orders)
        check_points(self, points, len(orders), 3)
        check_lands(self, scaled(points), lands(orders))
        corners, found = solid_map(points)
        self.assertEqual(corners, list(range(len(orders))))
        self.assertIs(same(found, orders), True)

    def check_with_others(self, orders):
        self.check_stood(orders)
        self.check_stood(mirrored(orders))
        self.check_stood(other_map(orders))
        self.check_stood(renamed(orders, shuffled(len(orders), len(orders))))

    def test_with_a_land_of_three_corners(self):
        for orders in THREE:
            self.assertIn(3, [len(ring) for ring in lands(orders)])
            self.check_with_others(orders)

    def test_without_a_land_of_three_corners(self):
        for orders in NO_THREE:
            self.assertNotIn(3, [len(ring) for ring in lands(orders)])
            self.check_with_others(orders)

    def test_orders_begun_anywhere(self):
        for orders in (CUBE, FOUR, kites(4), twelve()):
            for turn in (1, 2):
                self.check_stood([order[turn:] + order[:turn] for order in orders])

    def test_sixty_places(self):
        for orders in BIG:
            self.assertLessEqual(len(orders), 60)
            self.check_stood(orders)
            self.check_stood(mirrored(orders))
            if len(lands(orders)) <= 60:
                self.check_stood(other_map(orders))

    def test_every_tight_map_of_few_ties(self):
        found = every_tight_map(13)
        # As many as are known to be there.
        self.assertEqual([len(maps) for maps in found.values()], [1, 0, 1, 2, 2, 4, 12, 22])
        for maps in found.values():
            for orders in maps:
                self.check_with_others(orders)


class Refused(unittest.TestCase):
    def test_no_map(self):
        for orders, place in NO_MAPS + [(FOUR + [[0]], 4), (TUBE + [[9], [8], [8]], 7)]:
            self.assertEqual(refused(self, NoMap, stood_up, orders).place, place)

    def test_no_sheet(self):
        for orders, number in NO_SHEETS + [(beside(FOUR, FOUR), None), (beside(CUBE, TUBE), None)]:
            self.assertEqual(refused(self, NoSheet, stood_up, orders).count, number)

    def test_no_sheet_goes_ahead_of_parted(self):
        hung_on = [TUBE[0] + [7]] + TUBE[1:] + [[0]]
        self.assertEqual(refused(self, NoSheet, stood_up, hung_on).count, 0)
        self.assertIsNone(refused(self, NoSheet, stood_up, beside(BOW, BOW)).count)
        self.assertIsNone(refused(self, NoSheet, stood_up, [[], [], []]).count)

    def test_parted(self):
        for orders, places in PARTED + [(grid(4, 3)[2], [1, 4]), (round_about(60), [0, 2])]:
            self.assertEqual(refused(self, Parted, stood_up, orders).places, places)

    def test_sixty_places(self):
        self.assertEqual(refused(self, NoMap, stood_up, EACH_TO_EACH[:59] + [[0, 1]]).place, 2)
        self.assertLess(refused(self, NoSheet, stood_up, EACH_TO_EACH).count, 0)

    def test_what_a_refusal_keeps_is_the_askers_own(self):
        refused(self, Parted, stood_up, round_about(3)).places.clear()
        self.assertEqual(refused(self, Parted, stood_up, round_about(3)).places, [0, 1, 2])


class Own(unittest.TestCase):
    def test_told_lists_are_the_askers_own(self):
        for orders in (FOUR, CUBE, kites(3), wheel(5)):
            check_own(self, stood_up, orders)

    def test_what_is_done_later_does_not_reach_what_was_told(self):
        for orders in (FOUR, CUBE):
            handed = [order[:] for order in orders]
            found = stood_up(handed)
            for order in handed:
                order.clear()
            handed.clear()
            self.assertEqual(found, stood_up(orders))


if __name__ == "__main__":
    unittest.main()
