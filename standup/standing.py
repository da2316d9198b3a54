"""Tight maps on a sheet stood up as solids."""

from standup.changes import other_map
from standup.drawing import looked_tight
from standup.lifting import lifted
from standup.maps import lands, left_lands
from standup.ratios import minus, over, plus
from standup.solids import turned_over


def lands_of_three(orders):
    return [land for land, ring in enumerate(lands(orders)) if len(ring) == 3]


def middle(numbers):
    whole = (0, 1)
    for number in numbers:
        whole = plus(whole, number)
    return over(whole, (len(numbers), 1))


# So that their middle is at (0, 0, 0): the middle of a solid's corners lies strictly inside.
def pushed(points):
    off = [middle([point[axis] for point in points]) for axis in range(3)]
    return [tuple([minus(point[axis], off[axis]) for axis in range(3)]) for point in points]


# Told is, for each place, the number of the other map's land that lies round
# it: that has the place at its left going from the land at the right of a tie
# that leaves the place to the land at the left.
def lands_about(orders, other):
    left = left_lands(lands(orders))
    about = left_lands(lands(other))
    found = []
    for place, order in enumerate(orders):
        found.append(about[(left[(order[0], place)], left[(place, order[0])])])
    return found


# Without a land of three corners a place has three neighbours, so the other map has such a land.
def stood_up(orders):
    looked_tight(orders)
    three = lands_of_three(orders)
    if len(three) > 0:
        return lifted(orders, three[0])
    other = other_map(orders)
    points = turned_over(pushed(lifted(other, lands_of_three(other)[0])))
    return [points[land] for land in lands_about(orders, other)]
