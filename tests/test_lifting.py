"""Points 2, 3 and 19: drawings lifted."""

import unittest

from standup.drawing import drawn
from standup.errors import NoLand, NoMap, NoSheet, NoThree, Parted
from standup.lifting import lifted
from standup.maps import lands
from tests.helper import (CUBE, FOUR, NO_MAPS, NO_SHEETS, PARTED, above, as_numbers, barrel, beside, check_own,
                          check_points, grid, prism, refused, scattered, side, thinned, told, wheel)

OCTAHEDRON = barrel(4, 1)
LIFTED = [FOUR, OCTAHEDRON, barrel(5, 2), barrel(3, 2), wheel(4), wheel(7), prism(3), scattered(1, 9)[2],
          scattered(2, 14)[2], thinned(1, 7), thinned(2, 10), thinned(4, 13), thinned(7, 16)]
BIG = [scattered(3, 60)[2], wheel(59), barrel(29, 2), barrel(5, 11), barrel(3, 19), thinned(3, 24)]


def over_plane(three, point):
    """Above 0 where the point lies over the plane of three, below 0 under it, 0 on it."""
    return above(three, point) * side(*three)


class Lifted(unittest.TestCase):
    def check_lifted(self, orders, land):
        points = told(self, lifted, orders, land)
        check_points(self, points, len(orders), 3)
        self.assertEqual([point[:2] for point in points], drawn(orders, land))
        exact = [as_numbers(point) for point in points]
        for number, ring in enumerate(lands(orders)):
            three = [exact[place] for place in ring[:3]]
            for place, point in enumerate(exact):
                height = over_plane(three, point)
                if place in ring:
                    self.assertEqual(height, 0)
                elif number == land:
                    self.assertGreater(height, 0)
                else:
                    self.assertLess(height, 0)

    def test_the_oracle_itself(self):
        three = [(0, 0, 0), (1, 0, 1), (0, 1, 0)]
        for corners in (three, three[::-1]):
            self.assertGreater(over_plane(corners, (3, 3, 4)), 0)
            self.assertEqual(over_plane(corners, (3, 3, 3)), 0)
            self.assertLess(over_plane(corners, (3, 3, 2)), 0)

    def test_every_land_of_three_corners(self):
        for orders in LIFTED:
            three = [land for land, ring in enumerate(lands(orders)) if len(ring) == 3]
            self.assertNotEqual(three, [])
            for land in three:
                self.check_lifted(orders, land)

    def test_sixty_places(self):
        for orders in BIG:
            three = [land for land, ring in enumerate(lands(orders)) if len(ring) == 3]
            for land in (three[0], three[len(three) // 2]):
                self.check_lifted(orders, land)

    def test_the_first_land_is_the_outer_one_or_not(self):
        self.check_lifted(FOUR, 0)
        self.check_lifted(FOUR, 1)
        self.check_lifted(FOUR, 3)


class Refused(unittest.TestCase):
    def test_no_map(self):
        for orders, place in NO_MAPS:
            for land in (0, -1, 99):
                self.assertEqual(refused(self, NoMap, lifted, orders, land).place, place)

    def test_no_sheet(self):
        for orders, number in NO_SHEETS + [(beside(FOUR, FOUR), None)]:
            for land in (0, -1, 99):
                self.assertEqual(refused(self, NoSheet, lifted, orders, land).count, number)

    def test_parted(self):
        for orders, places in PARTED + [(grid(4, 3)[2], [1, 4])]:
            for land in (0, -1, 99):
                self.assertEqual(refused(self, Parted, lifted, orders, land).places, places)

    def test_no_land(self):
        for orders in (FOUR, CUBE, prism(3)):
            many = len(lands(orders))
            for land in (-1, -many, many, many + 1, 10 ** 5000, -(10 ** 5000)):
                refused(self, NoLand, lifted, orders, land)

    def test_other_than_three_corners(self):
        for orders in (CUBE, prism(3), prism(5), wheel(4), wheel(9), thinned(4, 13)):
            more = [land for land, ring in enumerate(lands(orders)) if len(ring) != 3]
            self.assertNotEqual(more, [])
            for land in more:
                refused(self, NoThree, lifted, orders, land)


class Own(unittest.TestCase):
    def test_told_lists_are_the_askers_own(self):
        for orders in (FOUR, OCTAHEDRON, wheel(5)):
            check_own(self, lifted, orders, 0)

    def test_what_is_done_later_does_not_reach_what_was_told(self):
        orders = [order[:] for order in FOUR]
        found = lifted(orders, 2)
        for order in orders:
            order.clear()
        self.assertEqual(found, lifted(FOUR, 2))


if __name__ == "__main__":
    unittest.main()
