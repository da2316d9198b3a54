"""Points 2 and 6 to 9: maps, their ties and lands, hanging together, the count."""

import itertools
import unittest

from standup.errors import NoMap
from standup.maps import count, hangs, lands, looked, ties
from tests.helper import (ALONE, BOW, CUBE, CUBE_LANDS, EACH_TO_EACH, FOUR, FOUR_LANDS, SPUR, STAR, TUBE, beside,
                          check_own, drawn_map, grid, path, round_about, small_maps, told)

MAPS = [ALONE, [[], []], path(2), path(5), STAR, BOW, SPUR, round_about(3), FOUR, CUBE, TUBE, beside(FOUR, ALONE, BOW),
        beside(ALONE, path(3), TUBE), grid(10, 6)[2], EACH_TO_EACH]


def least_wrong(orders):
    """The least place that point 6 refuses, told in its words; None of a map."""
    everywhere = set(range(len(orders)))
    for place, order in enumerate(orders):
        itself = place in order
        twice = any(order.count(neighbour) > 1 for neighbour in order)
        nowhere = any(neighbour not in everywhere for neighbour in order)
        unanswered = any(place not in orders[neighbour] for neighbour in order if neighbour in everywhere)
        if itself or twice or nowhere or unanswered:
            return place
    return None


def slow_lands(orders):
    """The lands by point 8's words: set out along each tie both ways, and keep the least beginning of each ring."""
    rings = set()
    for one, order in enumerate(orders):
        for other in order:
            steps = [(one, other)]
            while len(steps) < 2 or steps[-1] != steps[0]:
                here, there = steps[-1]
                where = orders[there].index(here)
                steps.append((there, orders[there][where - 1 if where > 0 else len(orders[there]) - 1]))
            ring = [here for here, there in steps[:-1]]
            rings.add(min(tuple(ring[k:] + ring[:k]) for k in range(len(ring))))
    return [list(ring) for ring in sorted(rings)]


def parts(orders):
    """The parts of a map, each as a set of places."""
    groups = [{place} for place in range(len(orders))]
    for place, order in enumerate(orders):
        for neighbour in order:
            met = [group for group in groups if place in group or neighbour in group]
            groups = [group for group in groups if group not in met] + [set().union(*met)]
    return groups


def twice_the_area(spots, ring):
    total = 0
    for k in range(len(ring)):
        here, there = spots[ring[k - 1]], spots[ring[k]]
        total += here[0] * there[1] - here[1] * there[0]
    return total


class Looked(unittest.TestCase):
    def check_refused(self, orders, place):
        with self.assertRaises(NoMap) as caught:
            told(self, looked, orders)
        self.assertEqual(caught.exception.place, place)
        self.assertIs(type(caught.exception.place), int)

    def test_maps_are_let_pass(self):
        for orders in MAPS:
            self.assertIsNone(told(self, looked, orders))

    def test_a_place_in_its_own_order(self):
        self.check_refused([[0]], 0)
        self.check_refused([[1], [0, 1]], 1)
        self.check_refused([[1, 2], [0, 2], [0, 1, 2]], 2)

    def test_one_twice(self):
        self.check_refused([[1], [0, 0]], 1)
        self.check_refused([[1, 1], [0]], 0)
        self.check_refused([[1], [0, 2], [1, 1]], 2)

    def test_a_number_that_is_no_place(self):
        self.check_refused([[1]], 0)
        self.check_refused([[1], [0, 2]], 1)
        self.check_refused([[1], [0, 10 ** 5000]], 1)
        self.check_refused([[1], [0], [3]], 2)

    def test_numbers_below_nought(self):
        self.check_refused([[-1]], 0)
        self.check_refused([[-1], [0]], 0)
        self.check_refused([[1], [-2]], 0)
        self.check_refused([[1], [0, -1]], 1)
        self.check_refused([[1], [0, -2]], 1)
        self.check_refused([[1], [0], [-3]], 2)
        self.check_refused([[1], [0], [-(10 ** 5000)]], 2)

    def test_a_place_in_whose_order_it_does_not_stand(self):
        self.check_refused([[1], []], 0)
        self.check_refused([[], [0]], 1)
        self.check_refused([[1], [0, 2], []], 1)
        self.check_refused([[1], [0], [0, 1]], 2)

    def test_the_least_of_several_wrong_places(self):
        self.check_refused([[1], [0], [2], [3], [4]], 2)
        self.check_refused([[], [1], [0], [-1], [9]], 1)
        self.check_refused([[], [3, 3], [2], []], 1)
        self.check_refused([[3], [1], [2], [3]], 0)

    def test_every_list_of_three_orders(self):
        orders = [list(order) for size in range(3) for order in itertools.product((-1, 0, 1, 2, 3), repeat=size)]
        for picked in itertools.product(orders, repeat=3):
            given = [list(order) for order in picked]
            wrong = least_wrong(given)
            try:
                self.assertIsNone(looked(given))
                found = None
            except NoMap as error:
                found = error.place
            self.assertEqual(found, wrong, given)

    def test_sixty_places(self):
        for orders in (EACH_TO_EACH, path(60), round_about(60)):
            self.assertIsNone(looked(orders))
        wrong = [list(order) for order in EACH_TO_EACH]
        wrong[58].remove(59)
        self.check_refused(wrong, 59)


class Ties(unittest.TestCase):
    def test_by_hand(self):
        self.assertEqual(ties(ALONE), [])
        self.assertEqual(ties([[], [], []]), [])
        self.assertEqual(ties(path(2)), [(0, 1)])
        self.assertEqual(ties(FOUR), [(0, 1), (0, 2), (0, 3), (1, 2), (1, 3), (2, 3)])
        self.assertEqual(ties([[3, 1, 2], [0], [0, 3], [2, 0]]), [(0, 1), (0, 2), (0, 3), (2, 3)])
        self.assertEqual(ties([[2], [2], [1, 0]]), [(0, 2), (1, 2)])

    def test_every_small_map(self):
        for orders in itertools.chain(small_maps(3), small_maps(4)):
            expected = sorted({(min(one, other), max(one, other)) for one, order in enumerate(orders)
                               for other in order})
            found = told(self, ties, orders)
            self.assertEqual(found, expected)
            self.assertTrue(all(type(tie) is tuple for tie in found))

    def test_all_maps(self):
        for orders in MAPS:
            found = told(self, ties, orders)
            self.assertEqual(found, sorted(found))
            self.assertEqual(len(set(found)), len(found))
            self.assertEqual(2 * len(found), sum(len(order) for order in orders))


class Hangs(unittest.TestCase):
    def test_one_place_alone(self):
        self.assertIs(hangs(ALONE), True)

    def test_parts(self):
        self.assertIs(hangs([[], []]), False)
        self.assertIs(hangs([[1], [0], []]), False)
        self.assertIs(hangs([[], [2], [1]]), False)
        self.assertIs(hangs(beside(FOUR, FOUR)), False)
        self.assertIs(hangs(beside(FOUR, CUBE, path(3))), False)

    def test_parts_that_are_not_numbered_in_a_row(self):
        self.assertIs(hangs([[2], [3], [0], [1]]), False)
        self.assertIs(hangs([[3], [2], [1, 3], [0, 2]]), True)

    def test_every_small_map(self):
        for orders in itertools.chain(small_maps(2), small_maps(3), small_maps(4)):
            self.assertIs(told(self, hangs, orders), len(parts(orders)) == 1)

    def test_sixty_places(self):
        self.assertIs(hangs(path(60)), True)
        self.assertIs(hangs(EACH_TO_EACH), True)
        self.assertIs(hangs(grid(10, 6)[2]), True)
        self.assertIs(hangs(beside(path(59), ALONE)), False)


class Lands(unittest.TestCase):
    def test_without_ties_there_are_none(self):
        self.assertEqual(lands(ALONE), [])
        self.assertEqual(lands([[], [], []]), [])

    def test_solids_by_hand(self):
        self.assertEqual(lands(FOUR), FOUR_LANDS)
        self.assertEqual(lands(CUBE), CUBE_LANDS)
        self.assertEqual(lands(round_about(4)), [[0, 1, 2, 3], [0, 3, 2, 1]])

    def test_ends_without_another_neighbour(self):
        self.assertEqual(lands(path(2)), [[0, 1]])
        self.assertEqual(lands(path(3)), [[0, 1, 2, 1]])
        self.assertEqual(lands([[2], [2], [0, 1]]), [[0, 2, 1, 2]])
        self.assertEqual(lands(SPUR), [[0, 1, 4, 1, 2, 3], [0, 3, 2, 1]])

    def test_places_that_stand_in_a_ring_more_than_once(self):
        self.assertEqual(lands(STAR), [[0, 1, 0, 3, 0, 2]])
        self.assertEqual(lands([[3, 2, 1], [0], [0], [0]]), [[0, 1, 0, 2, 0, 3]])
        self.assertEqual(lands(BOW), [[0, 1, 2], [0, 2, 1, 0, 4, 3], [0, 3, 4]])

    def test_a_place_without_neighbours_has_no_ring(self):
        self.assertEqual(lands([[], [2], [1], []]), [[1, 2]])
        self.assertEqual(lands(beside(ALONE, FOUR)), [[place + 1 for place in ring] for ring in FOUR_LANDS])

    def test_several_parts(self):
        self.assertEqual(lands(beside(path(2), path(3))), [[0, 1], [2, 3, 4, 3]])

    def test_on_the_tube_all_have_three_corners(self):
        found = lands(TUBE)
        self.assertEqual(len(found), 14)
        self.assertEqual({len(ring) for ring in found}, {3})

    def test_every_small_map_and_any_beginning_of_its_orders(self):
        for orders in itertools.chain(small_maps(2), small_maps(3), small_maps(4)):
            expected = slow_lands(orders)
            self.assertEqual(told(self, lands, orders), expected)
            for step in (1, 2):
                begun = [order[step:] + order[:step] for order in orders]
                self.assertEqual(lands(begun), expected)

    def test_all_maps(self):
        for orders in MAPS:
            self.assertEqual(told(self, lands, orders), slow_lands(orders))

    def test_inner_lands_go_round_to_the_left_and_lie_there(self):
        spots, pairs, orders = grid(10, 6)
        found = lands(orders)
        inner = [ring for ring in found if twice_the_area(spots, ring) > 0]
        self.assertEqual(len(found), 46)
        self.assertEqual(inner, sorted([k, k + 1, k + 11, k + 10] for k in range(50) if k % 10 < 9))
        outer = [ring for ring in found if ring not in inner]
        self.assertEqual([twice_the_area(spots, ring) for ring in outer], [-90])

    def test_a_drawing_with_a_place_within(self):
        spots = [(0, 0), (4, 0), (0, 4), (1, 1)]
        orders = drawn_map(spots, ties(FOUR))
        self.assertEqual(lands(orders), FOUR_LANDS)
        self.assertEqual([twice_the_area(spots, ring) > 0 for ring in FOUR_LANDS], [True, False, True, True])


class Count(unittest.TestCase):
    def test_on_a_sheet(self):
        for orders in (ALONE, path(2), path(60), STAR, BOW, SPUR, round_about(3), FOUR, CUBE, grid(10, 6)[2]):
            self.assertEqual(told(self, count, orders), 2)
            self.assertIs(type(count(orders)), int)

    def test_on_no_sheet(self):
        self.assertEqual(count(TUBE), 0)
        self.assertEqual(count([[1, 2, 3], [0, 2, 3], [0, 1, 3], [0, 1, 2]]), 0)
        self.assertEqual(count(EACH_TO_EACH), 60 - 1770 + len(slow_lands(EACH_TO_EACH)))

    def test_parts_and_places_without_neighbours(self):
        self.assertEqual(count([[], []]), 4)
        self.assertEqual(count([[], [], []]), 6)
        self.assertEqual(count([[], [2], [1]]), 4)
        self.assertEqual(count(beside(FOUR, CUBE)), 4)
        self.assertEqual(count(beside(FOUR, ALONE, BOW)), 6)
        self.assertEqual(count(beside(TUBE, ALONE)), 2)
        self.assertEqual(count(beside(TUBE, TUBE, FOUR)), 2)
        self.assertIs(hangs(beside(TUBE, ALONE)), False)

    def test_every_small_map(self):
        for orders in itertools.chain(small_maps(2), small_maps(3), small_maps(4)):
            alone = sum(order == [] for order in orders)
            pairs = sum(len(order) for order in orders) // 2
            expected = len(orders) + len(slow_lands(orders)) - pairs + alone
            self.assertEqual(told(self, count, orders), expected)
            self.assertLessEqual(expected, 2 * len(parts(orders)))
            self.assertEqual(expected % 2, 0)


class Own(unittest.TestCase):
    def test_told_lists_are_the_askers_own(self):
        for orders in MAPS:
            check_own(self, lands, orders)
            check_own(self, ties, orders)

    def test_what_is_done_to_a_list_told_earlier_does_not_reach_a_later_one(self):
        first = lands(FOUR)
        second = lands(FOUR)
        first[0].append(99)
        first.append([])
        self.assertEqual(second, FOUR_LANDS)
        self.assertEqual(lands(FOUR), FOUR_LANDS)

    def test_what_is_done_to_a_map_later_does_not_reach_what_was_told(self):
        orders = [list(order) for order in FOUR]
        found = (lands(orders), ties(orders))
        for order in orders:
            order.clear()
        self.assertEqual(found, (FOUR_LANDS, ties(FOUR)))

    def test_sixty_places(self):
        spots, pairs, orders = grid(10, 6)
        self.assertEqual(len(orders), 60)
        self.assertIsNone(looked(orders))
        self.assertEqual(ties(orders), sorted(pairs))
        self.assertIs(hangs(orders), True)
        self.assertEqual((len(lands(orders)), count(orders)), (46, 2))
        self.assertEqual(len(ties(EACH_TO_EACH)), 1770)


if __name__ == "__main__":
    unittest.main()
