"""Points 2 and 10 to 13: maps changed, the other map, other names, maps held side by side."""

import itertools
import unittest

from standup.changes import alike, mirrored, other_map, placed, renamed, same, tied, untied
from standup.errors import NoNames, NoOther, NoTie
from standup.maps import count, hangs, lands, looked, ties
from tests.helper import (ALONE, BOW, CUBE, CUBE_LANDS, EACH_TO_EACH, FOUR, SPUR, STAR, TUBE, any_map, barrel, beside,
                          check_own, grid, least_begin, path, prism, refused, round_about, scattered, shuffled,
                          small_maps, thinned, told, wheel)

OCTAHEDRON = barrel(4, 1)
SMALL = [orders for places in (2, 3, 4) for orders in small_maps(places)]
MAPS = [path(2), path(5), STAR, BOW, SPUR, round_about(3), round_about(6), FOUR, CUBE, TUBE, beside(FOUR, ALONE, BOW),
        beside(ALONE, path(3), TUBE), OCTAHEDRON, wheel(7), prism(5), any_map(3, 7, 50), any_map(4, 9, 30)]


def turned(order):
    """An order begun at its least neighbour."""
    return least_begin(order) if order else []


def whole_map(orders):
    """A map of which two alike ones are equal."""
    return [turned(order) for order in orders]


def slow_alike(one, other):
    """The first of all lists of names that makes of the one map the other."""
    if len(one) != len(other):
        return None
    goal = whole_map(other)
    for names in itertools.permutations(range(len(one))):
        made = {names[place]: turned([names[neighbour] for neighbour in order]) for place, order in enumerate(one)}
        if all(made[place] == goal[place] for place in made):
            return list(names)
    return None


class Changed(unittest.TestCase):
    def check_map(self, orders):
        self.assertIs(type(orders), list)
        self.assertEqual({type(order) for order in orders}, {list})
        self.assertLessEqual({type(place) for order in orders for place in order}, {int})
        self.assertIsNone(looked(orders))

    def check_ahead(self, order, new, old, before):
        """The order is as it was ahead of the change, with the new neighbour just ahead of the old one."""
        self.assertEqual(order[(order.index(new) + 1) % len(order)], old)
        self.assertEqual(turned([place for place in order if place != new]), turned(before))


class Tied(Changed):
    def check_tied(self, orders, land, one, other):
        ring = lands(orders)[land]
        first, second = ring[one], ring[other]
        made = told(self, tied, orders, land, one, other)
        self.check_map(made)
        self.check_ahead(made[first], second, ring[one - 1], orders[first])
        self.check_ahead(made[second], first, ring[other - 1], orders[second])
        for place in set(range(len(orders))) - {first, second}:
            self.assertEqual(turned(made[place]), turned(orders[place]))
        low, high = min(one, other), max(one, other)
        halves = [ring[low:high + 1], ring[high:] + ring[:low + 1]]
        rest = [old for number, old in enumerate(lands(orders)) if number != land]
        self.assertEqual(lands(made), sorted(rest + [least_begin(half) for half in halves]))
        self.assertEqual(count(made), count(orders))
        self.assertIs(same(untied(made, first, second), orders), True)
        self.assertIs(same(untied(made, second, first), orders), True)

    def check_all_corners(self, orders):
        for land, ring in enumerate(lands(orders)):
            for one, other in itertools.product(range(len(ring)), repeat=2):
                if ring[one] == ring[other] or ring[other] in orders[ring[one]]:
                    refused(self, NoTie, tied, orders, land, one, other)
                else:
                    self.check_tied(orders, land, one, other)

    def test_by_hand(self):
        self.assertEqual(CUBE_LANDS[0], [0, 1, 5, 4])
        made = whole_map(tied(CUBE, 0, 1, 3))
        self.assertEqual(made, whole_map([[1, 4, 3], [2, 5, 4, 0], [3, 6, 1], [0, 7, 2], [0, 1, 5, 7], [1, 6, 4],
                                          [2, 7, 5], [3, 4, 6]]))

    def test_the_first_corner_has_the_last_one_ahead_of_it(self):
        made = whole_map(tied(CUBE, 0, 0, 2))
        self.assertEqual(made[0], turned([1, 5, 4, 3]))
        self.assertEqual(made[5], turned([1, 6, 4, 0]))
        self.assertEqual(whole_map(tied(CUBE, 0, 2, 0)), made)

    def test_each_corner_of_a_place_gives_another_order(self):
        self.assertEqual(lands(SPUR)[0], [0, 1, 4, 1, 2, 3])
        self.assertEqual(turned(tied(SPUR, 0, 1, 5)[1]), turned([2, 4, 3, 0]))
        self.assertEqual(turned(tied(SPUR, 0, 3, 5)[1]), turned([2, 3, 4, 0]))
        three = [[1, 2, 3], [0], [0, 4], [0], [2]]
        self.assertEqual(lands(three), [[0, 1, 0, 3, 0, 2, 4, 2]])
        made = [whole_map(tied(three, 0, corner, 6)) for corner in (0, 2, 4)]
        self.assertEqual([order[0] for order in made], [[1, 4, 2, 3], [1, 2, 3, 4], [1, 2, 4, 3]])

    def test_two_ways_to_tie_two_places_of_two_lands(self):
        square = round_about(4)
        self.assertEqual(lands(tied(square, 0, 0, 2)), [[0, 1, 2], [0, 2, 3], [0, 3, 2, 1]])
        self.assertEqual(lands(tied(square, 1, 0, 2)), [[0, 1, 2, 3], [0, 2, 1], [0, 3, 2]])

    def test_alike_places_and_neighbours_are_refused(self):
        refused(self, NoTie, tied, CUBE, 0, 2, 2)
        refused(self, NoTie, tied, CUBE, 0, 0, 1)
        refused(self, NoTie, tied, CUBE, 0, 3, 0)
        refused(self, NoTie, tied, SPUR, 0, 1, 3)
        refused(self, NoTie, tied, SPUR, 0, 2, 3)
        refused(self, NoTie, tied, path(2), 0, 0, 1)
        # 0 and 2 are neighbours, though not along this ring.
        refused(self, NoTie, tied, tied(round_about(4), 0, 0, 2), 2, 0, 2)

    def test_every_small_map(self):
        for orders in SMALL:
            self.check_all_corners(orders)

    def test_all_maps(self):
        for orders in MAPS:
            self.check_all_corners(orders)

    def test_sixty_places(self):
        orders = grid(10, 6)[2]
        outer = [land for land, ring in enumerate(lands(orders)) if len(ring) > 4][0]
        for one, other in ((0, 26), (5, 2), (13, 0), (27, 1)):
            self.check_tied(orders, outer, one, other)


class Untied(Changed):
    def check_untied(self, orders, one, other):
        made = told(self, untied, orders, one, other)
        self.check_map(made)
        expected = [turned([neighbour for neighbour in order if {place, neighbour} != {one, other}])
                    for place, order in enumerate(orders)]
        self.assertEqual(whole_map(made), expected)
        one_land = any((one, other) in steps and (other, one) in steps for steps in all_steps(orders))
        self.assertEqual(count(made), count(orders) + (2 if one_land else 0))

    def test_by_hand(self):
        self.assertEqual(untied(path(2), 0, 1), [[], []])
        self.assertEqual(whole_map(untied(FOUR, 3, 1)), [[1, 3, 2], [0, 2], [0, 3, 1], [0, 2]])
        self.assertEqual(whole_map(untied(FOUR, 3, 1)), whole_map(untied(FOUR, 1, 3)))

    def test_no_neighbours_are_refused(self):
        refused(self, NoTie, untied, CUBE, 0, 2)
        refused(self, NoTie, untied, CUBE, 6, 0)
        refused(self, NoTie, untied, CUBE, 3, 3)
        refused(self, NoTie, untied, [[], []], 0, 1)
        refused(self, NoTie, untied, ALONE, 0, 0)
        refused(self, NoTie, untied, untied(FOUR, 1, 3), 3, 1)

    def test_numbers_that_are_no_places_are_no_neighbours(self):
        refused(self, NoTie, untied, FOUR, 0, 4)
        refused(self, NoTie, untied, FOUR, 4, 0)
        refused(self, NoTie, untied, FOUR, -1, 0)
        refused(self, NoTie, untied, FOUR, 0, -1)

    def test_every_tie(self):
        for orders in SMALL + MAPS:
            for one, other in itertools.product(range(len(orders)), repeat=2):
                if other in orders[one]:
                    self.check_untied(orders, one, other)
                else:
                    refused(self, NoTie, untied, orders, one, other)


def all_steps(orders):
    return [[(ring[k - 1], ring[k]) for k in range(len(ring))] for ring in lands(orders)]


class Placed(Changed):
    def check_placed(self, orders, land, corners):
        ring = lands(orders)[land]
        made = told(self, placed, orders, land, corners)
        self.check_map(made)
        new = len(orders)
        self.assertEqual(len(made), new + 1)
        joined = [ring[corner] for corner in corners]
        self.assertEqual(turned(made[new]), turned(joined))
        for corner in corners:
            self.check_ahead(made[ring[corner]], new, ring[corner - 1], orders[ring[corner]])
        for place in set(range(new)) - set(joined):
            self.assertEqual(turned(made[place]), turned(orders[place]))
        self.assertEqual(count(made), count(orders))
        pieces = []
        for k, corner in enumerate(corners):
            following = corners[(k + 1) % len(corners)]
            walked = ring[corner:following + 1] if following > corner else ring[corner:] + ring[:following + 1]
            pieces.append(least_begin([new] + walked))
        rest = [old for number, old in enumerate(lands(orders)) if number != land]
        self.assertEqual(lands(made), sorted(rest + pieces))

    def check_all_lists(self, orders):
        for land, ring in enumerate(lands(orders)):
            for size in range(1, len(ring) + 1):
                for corners in itertools.combinations(range(len(ring)), size):
                    if len({ring[corner] for corner in corners}) == size:
                        self.check_placed(orders, land, list(corners))
                    else:
                        refused(self, NoTie, placed, orders, land, list(corners))

    def test_by_hand(self):
        self.assertEqual(whole_map(placed(path(2), 0, [1])), [[1], [0, 2], [1]])
        self.assertEqual(whole_map(placed(round_about(3), 0, [0, 1, 2])), whole_map(FOUR))
        self.assertEqual(whole_map(placed(round_about(3), 1, [0, 1, 2])), whole_map(mirrored(FOUR)))
        made = placed(CUBE, 5, [0, 1, 2, 3])
        self.assertEqual(turned(made[8]), [4, 5, 6, 7])
        self.assertEqual(turned(made[4]), turned([0, 5, 8, 7]))

    def test_each_corner_of_a_place_gives_another_order(self):
        self.assertEqual(turned(placed(SPUR, 0, [1])[1]), turned([2, 4, 5, 0]))
        self.assertEqual(turned(placed(SPUR, 0, [3])[1]), turned([2, 5, 4, 0]))

    def test_an_empty_list_is_refused(self):
        for orders in (path(2), FOUR, CUBE, BOW):
            refused(self, NoTie, placed, orders, 0, [])

    def test_a_list_that_does_not_rise_is_refused(self):
        for corners in ([1, 0], [0, 0], [2, 2], [0, 2, 1], [0, 1, 1], [1, 2, 0], [3, 2, 1, 0]):
            refused(self, NoTie, placed, CUBE, 0, corners)
        refused(self, NoTie, placed, SPUR, 0, [3, 1])

    def test_alike_places_are_refused(self):
        refused(self, NoTie, placed, SPUR, 0, [1, 3])
        refused(self, NoTie, placed, SPUR, 0, [0, 1, 2, 3])
        refused(self, NoTie, placed, STAR, 0, [0, 2])
        refused(self, NoTie, placed, path(3), 0, [0, 1, 2, 3])

    def test_every_small_map(self):
        for orders in SMALL:
            self.check_all_lists(orders)

    def test_all_maps(self):
        for orders in MAPS:
            self.check_all_lists(orders)

    def test_more_than_sixty_places_come_of_sixty(self):
        orders = grid(10, 6)[2]
        outer = [land for land, ring in enumerate(lands(orders)) if len(ring) > 4][0]
        self.check_placed(orders, outer, list(range(28)))
        self.check_placed(orders, outer, [0])
        self.check_placed(orders, outer, [27])
        self.check_placed(orders, outer, [3, 9, 20])


class Other(Changed):
    def check_other(self, orders):
        made = told(self, other_map, orders)
        self.check_map(made)
        rings = lands(orders)
        left = {step: land for land, steps in enumerate(all_steps(orders)) for step in steps}
        for land, ring in enumerate(rings):
            across = [left[(ring[(k + 1) % len(ring)], ring[k])] for k in range(len(ring))]
            self.assertEqual(turned(made[land]), turned(across))
        # The lands of the other map lie round the places, in the order in which the ties leave them.
        around = [[left[(place, neighbour)] for neighbour in order] for place, order in enumerate(orders)]
        self.assertEqual(lands(made), sorted(least_begin(ring) for ring in around))
        self.assertEqual(count(made), count(orders))
        names = [lands(made).index(least_begin(ring)) for ring in around]
        if all(len(order) > 2 for order in orders):
            self.assertIs(same(other_map(made), renamed(orders, names)), True)
            self.assertIsNotNone(alike(other_map(made), orders))

    def test_by_hand(self):
        self.assertEqual(whole_map(other_map(CUBE)), whole_map(
            [[1, 3, 5, 2], [2, 4, 3, 0], [0, 5, 4, 1], [1, 4, 5, 0], [1, 2, 5, 3], [0, 3, 4, 2]]))
        self.assertIsNotNone(alike(other_map(CUBE), OCTAHEDRON))
        self.assertIsNotNone(alike(other_map(FOUR), FOUR))

    def test_other_maps(self):
        for orders in (FOUR, CUBE, TUBE, OCTAHEDRON, wheel(3), wheel(8), prism(3), prism(7), barrel(5, 2),
                       barrel(6, 3), scattered(1, 12)[2], scattered(2, 20)[2], thinned(3, 12), thinned(5, 16)):
            self.check_other(orders)

    def test_sixty_lands(self):
        self.check_other(prism(30))
        self.check_other(wheel(59))
        self.check_other(scattered(4, 32)[2])

    def test_itself_at_the_other_side_is_refused(self):
        for orders in (path(2), path(3), STAR, SPUR, tied(path(4), 0, 0, 2)):
            refused(self, NoOther, other_map, orders)

    def test_another_one_at_two_ties_is_refused(self):
        for orders in (round_about(3), round_about(7), BOW, untied(FOUR, 0, 1), placed(CUBE, 2, [0, 1]),
                       grid(3, 2)[2], placed(FOUR, 1, [0, 2])):
            refused(self, NoOther, other_map, orders)

    def test_every_small_map_that_hangs_together_and_has_ties(self):
        for orders in SMALL:
            if hangs(orders) and ties(orders):
                steps = all_steps(orders)
                sides = [[land for land, others in enumerate(steps) for step in own if step[::-1] in others]
                         for own in steps]
                if any(land in others or len(set(others)) < len(others) for land, others in enumerate(sides)):
                    refused(self, NoOther, other_map, orders)
                else:
                    self.check_other(orders)


class Mirrored(Changed):
    def test_each_order_is_turned_about(self):
        for orders in SMALL + MAPS + [ALONE, EACH_TO_EACH]:
            made = told(self, mirrored, orders)
            self.assertEqual(whole_map(made), [turned(order[::-1]) for order in orders])
            self.assertIs(same(mirrored(made), orders), True)

    def test_by_hand(self):
        self.assertEqual(whole_map(mirrored(CUBE))[:3], [[1, 3, 4], [0, 5, 2], [1, 6, 3]])
        self.assertEqual(mirrored(ALONE), [[]])

    def test_rings_go_the_other_way(self):
        for orders in (FOUR, CUBE, BOW, TUBE, SPUR):
            self.assertEqual(lands(mirrored(orders)), sorted(least_begin(ring[::-1]) for ring in lands(orders)))


class Renamed(Changed):
    def check_renamed(self, orders, names):
        made = told(self, renamed, orders, names)
        self.check_map(made)
        for place, order in enumerate(orders):
            self.assertEqual(turned(made[names[place]]), turned([names[neighbour] for neighbour in order]))
        self.assertEqual(lands(made), sorted(least_begin([names[place] for place in ring]) for ring in lands(orders)))

    def test_by_hand(self):
        self.assertEqual(whole_map(renamed(path(3), [2, 0, 1])), [[1, 2], [0], [0]])
        self.assertEqual(whole_map(renamed(SPUR, [1, 2, 3, 4, 0])), [[2], [2, 4], [0, 1, 3], [2, 4], [1, 3]])
        self.assertEqual(renamed(ALONE, [0]), [[]])

    def test_any_order_of_all_places(self):
        for orders in (FOUR, STAR, path(4), round_about(4), [[], [3, 2], [1], [1]]):
            for names in itertools.permutations(range(4)):
                self.check_renamed(orders, list(names))
        for orders in MAPS + [EACH_TO_EACH, grid(10, 6)[2]]:
            self.check_renamed(orders, shuffled(len(orders), len(orders)))

    def test_other_lists_are_refused(self):
        for names in ([], [0, 1, 2], [0, 1, 2, 3, 4], [0, 1, 2, 2], [3, 3, 3, 3], [0, 1, 2, 4], [-1, 0, 1, 2],
                      [0, 1, 2, -1], [1, 2, 3, 4], [0, 1, 2, 3, 3], [0, 1, 2, 10 ** 5000]):
            refused(self, NoNames, renamed, FOUR, names)
        refused(self, NoNames, renamed, ALONE, [])
        refused(self, NoNames, renamed, ALONE, [1])
        refused(self, NoNames, renamed, ALONE, [-1])

    def test_every_list_of_three_numbers(self):
        for names in itertools.product(range(-1, 4), repeat=3):
            if sorted(names) == [0, 1, 2]:
                self.check_renamed(path(3), list(names))
            else:
                refused(self, NoNames, renamed, path(3), list(names))


class Same(unittest.TestCase):
    def test_orders_begun_elsewhere(self):
        for orders in MAPS + [ALONE, EACH_TO_EACH]:
            for step in range(4):
                begun = [order[step:] + order[:step] for order in orders]
                self.assertIs(told(self, same, orders, begun), True)
                self.assertIs(same(begun, orders), True)

    def test_orders_turned_about(self):
        for orders in (FOUR, CUBE, TUBE, STAR, BOW, SPUR):
            self.assertIs(same(orders, mirrored(orders)), False)
        for orders in (path(5), round_about(6), ALONE, path(2)):
            self.assertIs(same(orders, mirrored(orders)), True)

    def test_one_order_turned_about_alone(self):
        for place in range(8):
            other = [order[::-1] if k == place else order[:] for k, order in enumerate(CUBE)]
            self.assertIs(same(CUBE, other), False)
            self.assertIs(same(other, CUBE), False)

    def test_unlike_counts_of_places(self):
        self.assertIs(same(ALONE, [[], []]), False)
        self.assertIs(same([[], []], ALONE), False)
        self.assertIs(same(FOUR, beside(FOUR, ALONE)), False)
        self.assertIs(same(beside(FOUR, ALONE), FOUR), False)
        self.assertIs(same(path(4), path(5)), False)

    def test_unlike_ties(self):
        self.assertIs(same(FOUR, untied(FOUR, 0, 1)), False)
        self.assertIs(same(untied(FOUR, 0, 1), FOUR), False)
        self.assertIs(same(path(3), [[1, 2], [0], [0]]), False)
        self.assertIs(same([[], []], path(2)), False)
        self.assertIs(same(path(2), [[], []]), False)

    def test_all_pairs_of_small_maps(self):
        small = [list(map(list, orders)) for orders in small_maps(4)][::3] + list(small_maps(3))
        for one, other in itertools.product(small, repeat=2):
            self.assertIs(same(one, other), one == other)


class Alike(unittest.TestCase):
    def check_names(self, one, other, names):
        self.assertIs(type(names), list)
        self.assertIs(same(renamed(one, names), other), True)

    def test_one_place_alone(self):
        self.assertEqual(alike(ALONE, ALONE), [0])
        self.assertIsNone(alike(ALONE, path(2)))
        self.assertIsNone(alike(path(2), ALONE))

    def test_by_hand(self):
        self.assertEqual(alike(path(2), path(2)), [0, 1])
        self.assertEqual(alike(path(3), [[1, 2], [0], [0]]), [1, 0, 2])
        self.assertEqual(alike([[1, 2], [0], [0]], path(3)), [1, 0, 2])
        self.assertEqual(alike(STAR, mirrored(STAR)), [0, 1, 3, 2])
        self.assertEqual(alike(STAR, STAR), [0, 1, 2, 3])
        self.assertEqual(alike(FOUR, mirrored(FOUR)), [0, 1, 3, 2])
        self.assertIsNone(alike(FOUR, round_about(4)))
        self.assertIsNone(alike(path(4), STAR))

    def test_of_many_lists_the_least(self):
        for orders in (CUBE, TUBE, FOUR, OCTAHEDRON, round_about(60), barrel(5, 2), wheel(59), EACH_TO_EACH):
            self.assertEqual(told(self, alike, orders, orders), list(range(len(orders))))
            begun = [order[1:] + order[:1] for order in orders]
            self.assertEqual(alike(orders, begun), list(range(len(orders))))

    def test_the_least_for_the_cube_against_all_lists(self):
        for seed in range(3):
            other = renamed(CUBE, shuffled(seed, 8))
            self.assertEqual(told(self, alike, CUBE, other), slow_alike(CUBE, other))
        self.assertEqual(alike(CUBE, mirrored(CUBE)), slow_alike(CUBE, mirrored(CUBE)))

    def test_place_0_may_have_many_names(self):
        # The rim's places are alike, the middle is not: the least name of a rim place is looked for.
        for spokes in (3, 4, 5, 6):
            for names in ([k + 1 for k in range(spokes)] + [0], shuffled(spokes, spokes + 1)):
                one, other = renamed(wheel(spokes), names), wheel(spokes)
                self.assertEqual(alike(one, other), slow_alike(one, other))
                self.assertEqual(alike(other, one), slow_alike(other, one))

    def test_a_map_that_is_not_its_own_mirror(self):
        seen = 0
        for seed in range(12):
            orders = scattered(seed, 7)[2]
            self.assertEqual(alike(orders, mirrored(orders)), slow_alike(orders, mirrored(orders)))
            seen += alike(orders, mirrored(orders)) is None
        self.assertGreater(seen, 0)
        # The tube of seven places turns one way only.
        self.assertIsNone(alike(TUBE, mirrored(TUBE)))

    def test_all_pairs_of_small_maps(self):
        small = [orders for places in (1, 2, 3) for orders in small_maps(places) if hangs(orders)]
        small += [orders for orders in small_maps(4) if hangs(orders)][::4]
        for one, other in itertools.product(small, repeat=2):
            self.assertEqual(alike(one, other), slow_alike(one, other), (one, other))

    def test_some_maps_of_six_places(self):
        for seed in range(25):
            one = any_map(seed, 6, 60)
            if hangs(one):
                other = renamed(one, shuffled(seed, 6))
                self.assertEqual(alike(one, other), slow_alike(one, other))
                self.assertEqual(alike(one, mirrored(other)), slow_alike(one, mirrored(other)))

    def test_maps_that_go_round_twice_are_not_alike(self):
        # Round each place the same, but another count of places, or other lands.
        self.assertIsNone(alike(round_about(6), round_about(3)))
        self.assertIsNone(alike(round_about(3), round_about(6)))
        self.assertIsNone(alike(barrel(5, 2), any_map(0, 12, 50)))
        self.assertIsNone(alike(prism(5), other_map(barrel(4, 2))))

    def test_maps_of_sixty_places(self):
        for seed, orders in enumerate((grid(10, 6)[2], scattered(1, 60)[2], prism(30), wheel(59), barrel(29, 2))):
            names = shuffled(seed, len(orders))
            other = renamed(orders, names)
            found = told(self, alike, orders, other)
            self.check_names(orders, other, found)
            self.assertLessEqual(found, names)

    def test_one_order_is_another_one_in_a_map_of_many_ties(self):
        other = [order[:] for order in EACH_TO_EACH]
        other[59] = other[59][1:2] + other[59][:1] + other[59][2:]
        self.assertIsNone(alike(EACH_TO_EACH, other))


class Own(unittest.TestCase):
    def test_told_maps_are_the_askers_own(self):
        for orders in (FOUR, CUBE, SPUR, TUBE, beside(CUBE, ALONE, BOW)):
            check_own(self, mirrored, orders)
            check_own(self, untied, orders, 0, orders[0][0])
            check_own(self, placed, orders, 0, [0])
            check_own(self, placed, orders, 0, [0, 1])
            check_own(self, renamed, orders, shuffled(5, len(orders)))
        check_own(self, tied, CUBE, 0, 0, 2)
        check_own(self, tied, SPUR, 0, 0, 4)
        check_own(self, other_map, CUBE)
        check_own(self, other_map, TUBE)
        check_own(self, alike, CUBE, mirrored(CUBE))
        check_own(self, alike, ALONE, ALONE)
        check_own(self, mirrored, [[], []])

    def test_what_is_done_to_a_map_later_does_not_reach_what_was_told(self):
        orders = [order[:] for order in CUBE]
        corners = [0, 2]
        names = [7, 6, 5, 4, 3, 2, 1, 0]
        found = [tied(orders, 0, 0, 2), untied(orders, 0, 1), placed(orders, 0, corners), mirrored(orders),
                 renamed(orders, names), other_map(orders)]
        for thing in orders + [corners, names]:
            thing.clear()
        self.assertEqual(found, [tied(CUBE, 0, 0, 2), untied(CUBE, 0, 1), placed(CUBE, 0, [0, 2]), mirrored(CUBE),
                                 renamed(CUBE, [7, 6, 5, 4, 3, 2, 1, 0]), other_map(CUBE)])


if __name__ == "__main__":
    unittest.main()
