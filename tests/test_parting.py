"""Points 2, 3 and 14 to 16: places that part, roads, hues, trees."""

import itertools
import unittest

from standup.maps import count, hangs, ties
from standup.parting import few, hues, parting, roads, trees
from tests.helper import (ALONE, BOW, CUBE, EACH_TO_EACH, FOUR, SPUR, STAR, TUBE, any_map, barrel, beside, check_own,
                          drawn_map, grid, path, prism, reached, round_about, scattered, slow_parting, small_maps,
                          thinned, told, wheel)

OCTAHEDRON = barrel(4, 1)
ICOSAHEDRON = barrel(5, 2)
SMALL = [orders for places in (1, 2, 3, 4) for orders in small_maps(places)]
# Three places, each tied to each of three others: it lies on no sheet.
UTILITIES = [[3, 4, 5], [3, 4, 5], [3, 4, 5], [0, 1, 2], [0, 1, 2], [0, 1, 2]]
SOME = [any_map(seed, places, often) for seed in range(6) for places in (5, 6, 7) for often in (20, 40, 60, 80)]
TIGHT = [FOUR, CUBE, OCTAHEDRON, ICOSAHEDRON, TUBE, UTILITIES, wheel(5), prism(3), prism(6), barrel(3, 2),
         scattered(1, 9)[2], thinned(2, 10), thinned(4, 13)]
SHEETS = [ALONE, path(2), path(60), STAR, BOW, SPUR, round_about(3), round_about(60), FOUR, CUBE, OCTAHEDRON,
          ICOSAHEDRON, wheel(59), prism(30), grid(10, 6)[2], thinned(1, 20)]


class Parting(unittest.TestCase):
    def test_a_map_that_does_not_hang_together(self):
        for orders in ([[], []], [[1], [0], []], beside(FOUR, FOUR), beside(path(3), ALONE), beside(TUBE, ALONE)):
            self.assertEqual(told(self, parting, orders), [])

    def test_one_place(self):
        self.assertEqual(parting(path(3)), [1])
        self.assertEqual(parting(path(5)), [1])
        self.assertEqual(parting(STAR), [0])
        self.assertEqual(parting(BOW), [0])
        self.assertEqual(parting(SPUR), [1])
        self.assertEqual(parting([[3], [3], [3], [0, 1, 2]]), [3])

    def test_two_places(self):
        self.assertEqual(parting(round_about(4)), [0, 2])
        self.assertEqual(parting(round_about(60)), [0, 2])
        self.assertEqual(parting([[1, 2], [0, 2, 3], [0, 1, 3], [1, 2]]), [1, 2])
        self.assertEqual(parting(grid(10, 6)[2]), [1, 10])
        # Two lots of places with 4 and 5 in common.
        self.assertEqual(parting([[1, 4, 5], [0, 4, 5], [3, 4, 5], [2, 4, 5], [0, 1, 2, 3], [0, 1, 2, 3]]), [4, 5])

    def test_none(self):
        for orders in TIGHT + [EACH_TO_EACH, wheel(59), prism(30), barrel(29, 2), scattered(3, 60)[2]]:
            self.assertIsNone(told(self, parting, orders))

    def test_one_two_and_three_places(self):
        self.assertIsNone(parting(ALONE))
        self.assertIsNone(parting(path(2)))
        self.assertIsNone(parting(round_about(3)))
        self.assertEqual(parting([[], []]), [])
        self.assertEqual(parting([[1, 2], [0], [0]]), [0])
        self.assertEqual(parting([[], [2], [1]]), [])

    def test_against_all_lists_tried_one_by_one(self):
        for orders in SMALL + SOME:
            self.assertEqual(told(self, parting, orders), slow_parting(orders), orders)

    def test_a_tie_less(self):
        for seed in range(8):
            spots, pairs, orders = scattered(seed, 12)
            fewer = drawn_map(spots, [pair for k, pair in enumerate(pairs) if k % 4 != seed % 4])
            self.assertEqual(parting(fewer), slow_parting(fewer))


def all_roads(orders, one, other):
    """All roads between two places."""
    found = []
    fresh = [[one]]
    while fresh:
        found += [road for road in fresh if road[-1] == other]
        fresh = [road + [place] for road in fresh if road[-1] != other for place in orders[road[-1]]
                 if place not in road]
    return found


def apart(roads_given):
    """No two of the roads have a place in common but the first and the last, or a tie."""
    return all(not set(first[1:-1]) & set(second[1:-1]) and len(first + second) > 4
               for first, second in itertools.combinations(roads_given, 2))


class Roads(unittest.TestCase):
    def check_roads(self, orders, one, other):
        """Told is one of the two, and it is as point 15 tells; so the other one is not there."""
        answer = told(self, roads, orders, one, other)
        self.assertIs(type(answer), tuple)
        self.assertEqual(len(answer), 2)
        self.assertIs(type(answer[1]), list)
        if answer[0] == "roads":
            self.check_three(orders, one, other, answer[1])
        else:
            self.assertEqual(answer[0], "parted")
            self.check_parted(orders, one, other, answer[1])
        return answer[0]

    def check_three(self, orders, one, other, found):
        self.assertEqual(len(found), 3)
        for road in found:
            self.assertIs(type(road), list)
            self.assertEqual((road[0], road[-1]), (one, other))
            self.assertEqual(len(set(road)), len(road))
            for here, there in zip(road, road[1:]):
                self.assertIn(there, orders[here])
        self.assertTrue(apart(found), found)

    def check_parted(self, orders, one, other, places):
        self.assertEqual(places, sorted(set(places)))
        self.assertLessEqual(len(places), 1 if other in orders[one] else 2)
        self.assertNotIn(one, places)
        self.assertNotIn(other, places)
        self.assertTrue(set(places) <= set(range(len(orders))))
        untied = [[neighbour for neighbour in order if {place, neighbour} != {one, other}]
                  for place, order in enumerate(orders)]
        self.assertNotIn(other, reached(untied, one, places))

    def check_all_pairs(self, orders):
        return {(one, other): self.check_roads(orders, one, other)
                for one, other in itertools.permutations(range(len(orders)), 2)}

    def test_neighbours_by_hand(self):
        self.assertEqual(roads(path(2), 0, 1), ("parted", []))
        self.assertEqual(roads(path(2), 1, 0), ("parted", []))
        self.assertEqual(roads(path(3), 0, 1), ("parted", []))
        self.assertEqual(roads(round_about(3), 0, 1), ("parted", [2]))
        answer = roads(FOUR, 0, 3)
        self.assertEqual((answer[0], sorted(answer[1])), ("roads", [[0, 1, 3], [0, 2, 3], [0, 3]]))

    def test_no_neighbours_by_hand(self):
        self.assertEqual(roads([[], []], 0, 1), ("parted", []))
        self.assertEqual(roads(path(3), 0, 2), ("parted", [1]))
        self.assertEqual(roads(round_about(4), 0, 2), ("parted", [1, 3]))
        self.assertEqual(roads(round_about(4), 3, 1), ("parted", [0, 2]))
        answer = roads([[2, 3, 4], [4, 3, 2], [0, 1], [0, 1], [0, 1]], 0, 1)
        self.assertEqual((answer[0], sorted(answer[1])), ("roads", [[0, 2, 1], [0, 3, 1], [0, 4, 1]]))

    def test_maps_that_do_not_hang_together(self):
        for orders in (beside(FOUR, FOUR), beside(CUBE, ALONE), beside(TUBE, path(3))):
            self.assertEqual(roads(orders, 0, len(orders) - 1), ("parted", []))
            self.assertEqual(roads(orders, len(orders) - 1, 0), ("parted", []))
            kinds = self.check_all_pairs(orders)
            self.assertEqual(set(kinds.values()), {"roads", "parted"})

    def test_a_road_that_has_to_be_taken_over(self):
        # The shortest road 0, 1, 2, 9 stands in the way of each other one; with it there are not three.
        orders = [[1, 3, 5], [0, 2, 4], [1, 9, 6], [0, 6], [1, 9], [0, 7], [3, 2], [5, 8], [7, 9], [2, 4, 8]]
        self.assertEqual(self.check_roads(orders, 0, 9), "roads")
        self.assertEqual(self.check_roads(orders, 9, 0), "roads")

    def test_a_place_that_has_to_be_left_again(self):
        # The shortest road 0, 1, 2, 3, 9 goes through 2, but no two roads beside the tie do.
        orders = [[9, 1, 4], [0, 2, 7], [1, 3], [2, 9, 6], [0, 5], [4, 6], [5, 3], [1, 8], [7, 10], [0, 3, 10], [8, 9]]
        found = [[0, 1, 7, 8, 10, 9], [0, 4, 5, 6, 3, 9], [0, 9]]
        self.assertEqual(sorted(roads(orders, 0, 9)[1]), found)
        self.assertEqual(sorted(roads(orders, 9, 0)[1]), sorted(road[::-1] for road in found))
        self.assertEqual(self.check_roads(orders, 0, 9), "roads")
        self.assertEqual(self.check_roads(orders, 9, 0), "roads")

    def test_three_roads_between_any_two_places_of_a_tight_map(self):
        for orders in TIGHT:
            self.assertEqual(set(self.check_all_pairs(orders).values()), {"roads"})

    def test_some_pairs_of_tight_maps_of_sixty_places(self):
        for orders in (scattered(1, 60)[2], prism(30), wheel(59), barrel(29, 2), barrel(5, 11), EACH_TO_EACH):
            for one in (0, 1, 17, len(orders) - 1):
                for other in range(0, len(orders), 3):
                    if one != other:
                        self.assertEqual(self.check_roads(orders, one, other), "roads")

    def test_where_two_places_part_some_pair_has_no_three_roads(self):
        for orders in SMALL + SOME + [grid(4, 3)[2], BOW, SPUR]:
            if len(orders) > 3:
                kinds = set(self.check_all_pairs(orders).values())
                self.assertEqual(kinds == {"roads"}, slow_parting(orders) is None, orders)

    def test_against_all_roads_tried_one_by_one(self):
        for orders in SMALL + [any_map(seed, 6, often) for seed in range(5) for often in (40, 60, 75)]:
            for one, other in itertools.combinations(range(len(orders)), 2):
                found = all_roads(orders, one, other)
                three = any(apart(picked) for picked in itertools.combinations(found, 3))
                self.assertEqual(self.check_roads(orders, one, other), "roads" if three else "parted")

    def test_big_maps_with_narrow_spots(self):
        orders = grid(10, 6)[2]
        for one, other in ((0, 59), (0, 1), (9, 50), (23, 36), (23, 24), (5, 54), (1, 58)):
            self.check_roads(orders, one, other)
        self.assertEqual(roads(orders, 0, 59)[0], "parted")
        self.assertEqual(roads(orders, 23, 36)[0], "roads")


class Few(unittest.TestCase):
    def test_by_hand(self):
        self.assertEqual(few(ALONE), 0)
        self.assertEqual(few(FOUR), 0)
        self.assertEqual(few(ICOSAHEDRON), 0)
        self.assertEqual(few(wheel(5)), 0)
        self.assertEqual(few(wheel(6)), 1)
        self.assertEqual(few(barrel(6, 2)), 1)

    def test_the_first_with_at_most_five_neighbours(self):
        for orders in SHEETS + [scattered(seed, 60)[2] for seed in range(6)] + [barrel(9, 6), barrel(5, 11)]:
            place = told(self, few, orders)
            self.assertIs(type(place), int)
            self.assertEqual([len(order) <= 5 for order in orders].index(True), place)


class Hues(unittest.TestCase):
    def check_hues(self, orders):
        found = told(self, hues, orders)
        self.assertIs(type(found), list)
        self.assertEqual(len(found), len(orders))
        self.assertTrue(all(type(hue) is int and 0 <= hue <= 4 for hue in found))
        for one, other in ties(orders):
            self.assertNotEqual(found[one], found[other])

    def test_maps_on_a_sheet(self):
        for orders in SHEETS:
            self.check_hues(orders)

    def test_every_small_map_on_a_sheet(self):
        for orders in SMALL:
            if hangs(orders) and count(orders) == 2:
                self.check_hues(orders)

    def test_every_place_has_five_neighbours_or_more(self):
        for sides, rings in [(5, rings) for rings in range(2, 12)] + [(6, 9), (7, 8), (8, 7), (9, 6), (11, 5), (14, 4),
                                                                      (19, 3), (29, 2)]:
            orders = barrel(sides, rings)
            self.assertGreaterEqual(min(len(order) for order in orders), 5)
            self.assertLessEqual(len(orders), 60)
            self.check_hues(orders)

    def test_every_place_has_five_neighbours_or_more_under_other_names(self):
        for sides, rings in ((5, 2), (5, 6), (5, 11), (9, 6), (29, 2)):
            orders = barrel(sides, rings)
            for step in (1, 7, 11, 13, 17, 23):
                places = sorted(range(len(orders)), key=lambda place: (place * step) % 61)
                self.check_hues(under_names(orders, places))

    def test_scattered_maps_of_many_ties(self):
        for seed in range(30):
            self.check_hues(scattered(seed, 60)[2])
        for seed in range(60):
            self.check_hues(scattered(seed, 25)[2])


def under_names(orders, names):
    made = [[] for order in orders]
    for place, order in enumerate(orders):
        made[names[place]] = [names[neighbour] for neighbour in order]
    return made


def slow_trees(orders):
    """How many sets of ties, one less than the places, hang the map together."""
    found = 0
    for picked in itertools.combinations(ties(orders), len(orders) - 1):
        tree = [[] for order in orders]
        for one, other in picked:
            tree[one].append(other)
            tree[other].append(one)
        found += len(reached(tree, 0)) == len(orders)
    return found


class Trees(unittest.TestCase):
    def test_by_hand(self):
        self.assertEqual(trees(ALONE), 1)
        self.assertEqual(trees(path(2)), 1)
        self.assertEqual(trees(path(60)), 1)
        self.assertEqual(trees(STAR), 1)
        self.assertEqual(trees(round_about(3)), 3)
        self.assertEqual(trees(round_about(60)), 60)
        self.assertEqual(trees(BOW), 9)
        self.assertEqual(trees(FOUR), 16)
        self.assertEqual(trees(CUBE), 384)
        self.assertEqual(trees(OCTAHEDRON), 384)
        self.assertEqual(trees(ICOSAHEDRON), 5184000)
        self.assertEqual(trees(UTILITIES), 81)

    def test_a_map_that_does_not_hang_together_has_none(self):
        for orders in ([[], []], [[1], [0], []], [[], [2], [1]], beside(FOUR, FOUR), beside(CUBE, ALONE),
                       beside(ALONE, CUBE)):
            self.assertEqual(told(self, trees, orders), 0)

    def test_each_place_tied_to_each(self):
        self.assertEqual(trees(EACH_TO_EACH), 60 ** 58)
        self.assertEqual(trees(TUBE), 7 ** 5)
        self.assertIs(type(trees(EACH_TO_EACH)), int)

    def test_against_counting_one_by_one(self):
        for orders in SMALL + [orders for orders in SOME if len(ties(orders)) < 14] + [SPUR, BOW, prism(3), wheel(4)]:
            self.assertEqual(told(self, trees, orders), slow_trees(orders))

    def test_the_cube_one_by_one(self):
        self.assertEqual(slow_trees(CUBE), trees(CUBE))

    def test_a_map_and_its_lands_have_as_many(self):
        self.assertEqual(trees(wheel(59)), trees(under_names(wheel(59), list(range(60))[::-1])))
        self.assertEqual(trees(wheel(3)), 16)
        self.assertEqual(trees(wheel(4)), 45)
        self.assertEqual(trees(wheel(5)), 121)


class Own(unittest.TestCase):
    def test_told_lists_are_the_askers_own(self):
        for orders in (path(3), round_about(4), beside(FOUR, ALONE), grid(4, 3)[2]):
            check_own(self, parting, orders)
            check_own(self, roads, orders, 0, len(orders) - 1)
        for orders in (FOUR, CUBE, ICOSAHEDRON, wheel(9)):
            check_own(self, hues, orders)
            check_own(self, roads, orders, 0, 1)
            check_own(self, roads, orders, 0, len(orders) - 1)

    def test_what_is_done_to_a_map_later_does_not_reach_what_was_told(self):
        orders = [order[:] for order in CUBE]
        found = [roads(orders, 0, 6), hues(orders)]
        for order in orders:
            order.clear()
        self.assertEqual(found, [roads(CUBE, 0, 6), hues(CUBE)])


if __name__ == "__main__":
    unittest.main()
