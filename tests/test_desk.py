"""Points 2 and 25: the desk."""

import copy
import unittest

from standup.changes import other_map, placed, same, tied, untied
from standup.desk import Desk
from standup.errors import MapError, NoMap, NoOther, NoSheet, NoStep, NoTie, Parted
from standup.maps import hangs, lands, ties
from standup.solids import solid_map
from standup.standing import stood_up
from tests.helper import (ALONE, BOW, CUBE, FOUR, NO_MAPS, NO_SHEETS, PARTED, SPUR, STAR, TUBE, barrel, beside,
                          check_own, lists_in, numbers, prism, refused, round_about, scattered, spoiled, told, wheel)


def steps_there(desk):
    """How often back, and how often again, is there to be done; the desk is left as it was."""
    behind = 0
    while True:
        try:
            desk.back()
        except NoStep:
            break
        behind += 1
    ahead = 0
    while True:
        try:
            desk.again()
        except NoStep:
            break
        ahead += 1
    for step in range(ahead - behind):
        desk.back()
    return behind, ahead - behind


def maps_kept(desk):
    """All maps that back and again come to, in their order, and the number of the one on the desk."""
    behind, ahead = steps_there(desk)
    for step in range(behind):
        desk.back()
    found = [desk.orders()]
    for step in range(behind + ahead):
        desk.again()
        found.append(desk.orders())
    for step in range(ahead):
        desk.back()
    return found, behind


class DeskCase(unittest.TestCase):
    def check_deed(self, desk, expected, deed, *given):
        """The deed tells nothing and puts the map expected on the desk; back and again undo it and do it anew."""
        ahead = desk.orders()
        self.assertIsNone(told(self, deed, *given))
        self.assertIs(same(desk.orders(), expected), True)
        refused(self, NoStep, desk.again)
        self.assertIsNone(desk.back())
        self.assertEqual(desk.orders(), ahead)
        self.assertIsNone(desk.again())
        self.assertIs(same(desk.orders(), expected), True)

    def check_refused(self, desk, error, deed, *given):
        """The deed is refused, and the desk is as it was, what back and again would do with it, too."""
        kept = maps_kept(desk)
        found = refused(self, error, deed, *given)
        self.assertEqual(maps_kept(desk), kept)
        return found


class Deeds(DeskCase):
    def test_is_set_up(self):
        for orders in (FOUR, CUBE, TUBE, ALONE, STAR, BOW, SPUR, [[], []], beside(FOUR, TUBE), round_about(60)):
            desk = told(self, Desk, orders)
            self.assertEqual(desk.orders(), orders)
            self.assertEqual(maps_kept(desk), ([orders], 0))

    def test_no_map_is_refused(self):
        for orders, place in NO_MAPS + [(FOUR + [[0]], 4)]:
            self.assertEqual(refused(self, NoMap, Desk, orders).place, place)

    def test_put_tie(self):
        for orders, land, one, other in ((CUBE, 0, 0, 2), (CUBE, 5, 3, 1), (SPUR, 0, 0, 2), (STAR, 0, 1, 3)):
            desk = Desk(orders)
            self.check_deed(desk, tied(orders, land, one, other), desk.put_tie, land, one, other)
        desk = Desk([[1, 3], [2, 0], [3, 1], [0, 2]])
        desk.put_tie(0, 0, 2)
        self.assertEqual(lands(desk.orders()), [[0, 1, 2], [0, 2, 3], [0, 3, 2, 1]])

    def test_put_tie_is_refused(self):
        for orders, land, one, other in ((CUBE, 0, 0, 1), (CUBE, 0, 2, 2), (FOUR, 1, 0, 2), (STAR, 0, 0, 2)):
            desk = Desk(orders)
            self.check_refused(desk, NoTie, desk.put_tie, land, one, other)

    def test_take_tie(self):
        for orders, one, other in ((CUBE, 0, 4), (CUBE, 4, 0), (STAR, 0, 2), (TUBE, 6, 3), ([[1], [0]], 0, 1)):
            desk = Desk(orders)
            self.check_deed(desk, untied(orders, one, other), desk.take_tie, one, other)
        self.assertEqual(desk.orders(), [[], []])

    def test_take_tie_is_refused(self):
        for orders, one, other in ((CUBE, 0, 2), (CUBE, 0, 0), (STAR, 1, 2), ([[], []], 0, 1)):
            desk = Desk(orders)
            self.check_refused(desk, NoTie, desk.take_tie, one, other)

    def test_put_place(self):
        for orders, land, corners in ((CUBE, 0, [0, 1, 2, 3]), (CUBE, 3, [2]), (FOUR, 2, [0, 2]), (STAR, 0, [0, 1])):
            desk = Desk(orders)
            self.check_deed(desk, placed(orders, land, corners), desk.put_place, land, corners)
        desk = Desk(FOUR)
        desk.put_place(1, [0, 1, 2])
        self.assertEqual(sorted(desk.orders()[4]), [0, 1, 2])

    def test_put_place_is_refused(self):
        for orders, land, corners in ((CUBE, 0, []), (CUBE, 0, [2, 1]), (CUBE, 0, [1, 1]), (STAR, 0, [0, 2]),
                                      (FOUR, 0, [0, 2, 1])):
            desk = Desk(orders)
            self.check_refused(desk, NoTie, desk.put_place, land, corners)

    def test_turn_inside(self):
        for orders in (CUBE, FOUR, TUBE, prism(5), wheel(6), barrel(4, 2), scattered(2, 14)[2]):
            desk = Desk(orders)
            self.check_deed(desk, other_map(orders), desk.turn_inside)
            self.check_deed(desk, other_map(other_map(orders)), desk.turn_inside)

    def test_turn_inside_is_refused(self):
        for orders in ([[1], [0]], STAR, SPUR, BOW, round_about(4)):
            desk = Desk(orders)
            self.check_refused(desk, NoOther, desk.turn_inside)


class BackAndAgain(DeskCase):
    def desk_with_deeds(self):
        """A desk with four deeds done, and all five maps."""
        desk = Desk(CUBE)
        maps = [CUBE, tied(CUBE, 0, 0, 2)]
        desk.put_tie(0, 0, 2)
        maps.append(placed(maps[-1], 1, [0, 1, 2]))
        desk.put_place(1, [0, 1, 2])
        maps.append(untied(maps[-1], 0, 5))
        desk.take_tie(0, 5)
        maps.append(other_map(maps[-1]))
        desk.turn_inside()
        return desk, maps

    def check_at(self, desk, maps, number):
        self.assertTrue(same(desk.orders(), maps[number]))

    def test_nothing_is_there_at_first(self):
        desk = Desk(FOUR)
        self.check_refused(desk, NoStep, desk.back)
        self.check_refused(desk, NoStep, desk.again)

    def test_many_times_over(self):
        desk, maps = self.desk_with_deeds()
        for number in (3, 2, 1, 0):
            self.assertIsNone(desk.back())
            self.check_at(desk, maps, number)
        self.check_refused(desk, NoStep, desk.back)
        self.check_refused(desk, NoStep, desk.back)
        for number in (1, 2, 3, 4):
            self.assertIsNone(desk.again())
            self.check_at(desk, maps, number)
        self.check_refused(desk, NoStep, desk.again)
        self.check_refused(desk, NoStep, desk.again)
        for number in (3, 2, 1, 0):
            desk.back()
            self.check_at(desk, maps, number)

    def test_to_and_fro(self):
        desk, maps = self.desk_with_deeds()
        number = 4
        picks = numbers(5, 0, 1)
        for step in range(200):
            if next(picks) == 0:
                if number == 0:
                    refused(self, NoStep, desk.back)
                else:
                    desk.back()
                    number = number - 1
            elif number == 4:
                refused(self, NoStep, desk.again)
            else:
                desk.again()
                number = number + 1
            self.check_at(desk, maps, number)

    def test_another_deed_leaves_nothing_for_again(self):
        for deed, given in (("put_tie", (5, 0, 2)), ("take_tie", (0, 1)), ("put_place", (0, [1])), ("turn_inside", ())):
            desk, maps = self.desk_with_deeds()
            for step in range(4):
                desk.back()
            for step in range(2):
                desk.again()
                desk.back()
            getattr(desk, deed)(*given)
            laid = desk.orders()
            self.check_refused(desk, NoStep, desk.again)
            desk.back()
            self.assertEqual(desk.orders(), CUBE)
            self.check_refused(desk, NoStep, desk.back)
            desk.again()
            self.assertEqual(desk.orders(), laid)
            self.check_refused(desk, NoStep, desk.again)

    def test_the_same_deed_anew_is_another_deed(self):
        desk = Desk(CUBE)
        desk.take_tie(0, 1)
        desk.take_tie(2, 3)
        desk.back()
        desk.back()
        desk.take_tie(0, 1)
        self.check_refused(desk, NoStep, desk.again)

    def test_a_deed_in_the_middle_keeps_what_is_behind(self):
        desk, maps = self.desk_with_deeds()
        desk.back()
        desk.back()
        desk.take_tie(4, 5)
        self.check_refused(desk, NoStep, desk.again)
        for number in (2, 1, 0):
            desk.back()
            self.check_at(desk, maps, number)
        self.check_refused(desk, NoStep, desk.back)

    def test_a_refused_deed_leaves_what_back_and_again_do(self):
        desk, maps = self.desk_with_deeds()
        desk.back()
        for again in range(3):
            desk.back()
            self.check_refused(desk, NoTie, desk.put_tie, 0, 0, 1)
            self.check_refused(desk, NoTie, desk.take_tie, 0, 6)
            self.check_refused(desk, NoTie, desk.put_place, 0, [])
        self.check_at(desk, maps, 0)
        for number in (1, 2, 3, 4):
            desk.again()
            self.check_at(desk, maps, number)
        desk = Desk(round_about(5))
        desk.put_place(0, [0, 1, 2])
        desk.back()
        self.check_refused(desk, NoOther, desk.turn_inside)
        self.check_refused(desk, Parted, desk.points)
        desk.again()
        self.assertEqual(len(desk.orders()), 6)

    def test_telling_is_no_deed(self):
        desk, maps = self.desk_with_deeds()
        desk.back()
        desk.back()
        desk.orders()
        desk.points()
        desk.again()
        self.check_at(desk, maps, 3)
        desk.again()
        self.check_at(desk, maps, 4)

    def test_any_deeds(self):
        for seed in range(12):
            self.check_any(Desk(CUBE if seed % 2 else BOW), numbers(seed, 0, 10 ** 6))

    def check_any(self, desk, picks):
        """Whatever is done, the desk has what a list of all maps and a number tell."""
        maps = [desk.orders()]
        number = 0
        for step in range(60):
            orders = maps[number]
            rings = lands(orders)
            kind = next(picks) % 7
            if kind < 4 and (kind != 3 or (hangs(orders) and ties(orders))) and rings and len(orders) < 30:
                land = next(picks) % len(rings)
                one, other = next(picks) % len(rings[land]), next(picks) % len(rings[land])
                first, second = next(picks) % len(orders), next(picks) % len(orders)
                call, deed, given = [(tied, desk.put_tie, (land, one, other)), (untied, desk.take_tie, (first, second)),
                                     (placed, desk.put_place, (land, sorted([one, other]))),
                                     (other_map, desk.turn_inside, ())][kind]
                try:
                    laid = call(orders, *given)
                except MapError as error:
                    refused(self, error.__class__, deed, *given)
                else:
                    told(self, deed, *given)
                    maps = maps[:number + 1] + [laid]
                    number = number + 1
            elif kind >= 4:
                way = 1 if kind == 6 else -1
                deed = desk.again if way == 1 else desk.back
                if 0 <= number + way < len(maps):
                    deed()
                    number = number + way
                else:
                    refused(self, NoStep, deed)
            self.assertTrue(same(desk.orders(), maps[number]))
        found, at = maps_kept(desk)
        self.assertEqual(at, number)
        self.assertEqual([same(one, other) for one, other in zip(found, maps, strict=True)], [True] * len(maps))


class Points(DeskCase):
    def test_the_points_of_the_map(self):
        for orders in (FOUR, CUBE, prism(5), wheel(6)):
            desk = Desk(orders)
            self.assertEqual(desk.points(), stood_up(orders))
            corners, found = solid_map(desk.points())
            self.assertTrue(same(found, orders))

    def test_they_go_with_the_map(self):
        desk = Desk(CUBE)
        desk.put_tie(0, 0, 2)
        self.assertTrue(same(solid_map(desk.points())[1], tied(CUBE, 0, 0, 2)))
        desk.turn_inside()
        self.assertTrue(same(solid_map(desk.points())[1], other_map(tied(CUBE, 0, 0, 2))))
        desk.back()
        desk.back()
        self.assertTrue(same(solid_map(desk.points())[1], CUBE))

    def test_refused(self):
        for orders, number in NO_SHEETS + [(beside(FOUR, FOUR), None)]:
            desk = Desk(orders)
            self.assertEqual(self.check_refused(desk, NoSheet, desk.points).count, number)
        for orders, places in PARTED:
            desk = Desk(orders)
            self.assertEqual(self.check_refused(desk, Parted, desk.points).places, places)

    def test_refused_behind_a_deed(self):
        desk = Desk(FOUR)
        desk.take_tie(0, 1)
        self.assertEqual(self.check_refused(desk, Parted, desk.points).places, [2, 3])
        for pair in ((0, 2), (0, 3)):
            desk.take_tie(*pair)
        self.assertIsNone(self.check_refused(desk, NoSheet, desk.points).count)
        for step in range(3):
            desk.back()
        self.assertEqual(desk.points(), stood_up(FOUR))


class Own(unittest.TestCase):
    def test_what_is_done_to_the_lists_handed_in_changes_nothing(self):
        orders = copy.deepcopy(CUBE)
        desk = Desk(orders)
        spoiled(orders)
        self.assertEqual(desk.orders(), CUBE)
        corners = [0, 1, 2, 3]
        desk.put_place(0, corners)
        spoiled(corners)
        self.assertTrue(same(desk.orders(), placed(CUBE, 0, [0, 1, 2, 3])))
        desk.back()
        self.assertEqual(desk.orders(), CUBE)
        desk.again()
        self.assertTrue(same(desk.orders(), placed(CUBE, 0, [0, 1, 2, 3])))

    def test_told_lists_are_the_askers_own(self):
        desk = Desk(CUBE)
        for deed, given in ((None, ()), (desk.put_tie, (0, 0, 2)), (desk.put_place, (1, [0, 1, 2])),
                            (desk.take_tie, (0, 5)), (desk.turn_inside, ()), (desk.back, ()), (desk.back, ()),
                            (desk.again, ())):
            if deed is not None:
                deed(*given)
            check_own(self, desk.orders)
        desk = Desk(CUBE)
        check_own(self, desk.points)

    def test_spoiling_every_told_map_changes_no_step(self):
        desk = Desk(CUBE)
        deeds = ((desk.put_tie, (0, 0, 2)), (desk.put_place, (1, [0, 1, 2])), (desk.take_tie, (0, 5)),
                 (desk.turn_inside, ()))
        kept = [copy.deepcopy(desk.orders())]
        for deed, given in deeds:
            spoiled(desk.orders())
            deed(*given)
            kept.append(copy.deepcopy(desk.orders()))
            spoiled(desk.orders())
        for number in (3, 2, 1, 0):
            desk.back()
            self.assertEqual(desk.orders(), kept[number])
            spoiled(desk.orders())
        for number in (1, 2, 3, 4):
            desk.again()
            self.assertEqual(desk.orders(), kept[number])
            spoiled(desk.orders())

    def test_no_later_deed_changes_what_was_told(self):
        desk = Desk(CUBE)
        first = desk.orders()
        desk.put_tie(0, 0, 2)
        second = desk.orders()
        kept = copy.deepcopy(second)
        desk.put_place(1, [0, 2])
        desk.take_tie(0, 1)
        desk.back()
        self.assertEqual(first, CUBE)
        self.assertEqual(second, kept)
        self.assertEqual({id(thing) for thing in lists_in(first)} & {id(thing) for thing in lists_in(second)}, set())

    def test_two_desks_beside_one_another(self):
        orders = copy.deepcopy(CUBE)
        one = Desk(orders)
        other = Desk(orders)
        one.put_tie(0, 0, 2)
        self.assertEqual(other.orders(), CUBE)
        refused(self, NoStep, other.back)
        other.take_tie(0, 1)
        one.back()
        refused(self, NoStep, other.again)
        self.assertEqual(one.orders(), CUBE)
        self.assertTrue(same(other.orders(), untied(CUBE, 0, 1)))
        third = Desk(other.orders())
        third.take_tie(1, 2)
        self.assertTrue(same(other.orders(), untied(CUBE, 0, 1)))
        self.assertEqual(orders, CUBE)


if __name__ == "__main__":
    unittest.main()
