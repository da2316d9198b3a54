"""Drawings lifted: every land but the outer one lies flat, and they bend the same way along every tie.

Planes are tuples (a, b, c): the height over (x, y) is a x + b y + c. They are
reckoned in whole numbers, on spots made whole by one bottom for all.
"""

from standup.drawing import by_middles, outer_ring, plain_frame
from standup.errors import NoThree
from standup.maps import lands, left_lands, steps
from standup.ratios import ratio
from standup.rows import common_bottom, made_whole


# The plane of the land at the left of going from one spot to the other, where
# that at the right is known: it falls off from that plane by twice the area of
# the triangle with the two spots. Round an inner place these falls sum to
# nothing, as the place is the middle of its neighbours.
def bent(plane, one, other):
    x = other[0] - one[0]
    y = other[1] - one[1]
    return (plane[0] + y, plane[1] - x, plane[2] + x * one[1] - y * one[0])


def height(plane, spot):
    return plane[0] * spot[0] + plane[1] * spot[1] + plane[2]


# The first other land may lie anyhow, so it is laid at height 0.
def planes(rings, land, spots):
    left = left_lands(rings)
    first = 1 if land == 0 else 0
    found = {first: (0, 0, 0)}
    waiting = [first]
    while len(waiting) > 0:
        number = waiting.pop()
        for here, there in steps(rings[number]):
            beyond = left[(there, here)]
            if beyond != land and beyond not in found:
                found[beyond] = bent(found[number], spots[there], spots[here])
                waiting.append(beyond)
    return found


def heights(rings, land, spots):
    found = {}
    for number, plane in planes(rings, land, spots).items():
        for place in rings[number]:
            found[place] = height(plane, spots[place])
    return found


def lifted(orders, land):
    ring = outer_ring(orders, land)
    if len(ring) != 3:
        raise NoThree("the land has other than three corners")
    spots = by_middles(orders, ring, plain_frame(3))
    numbers = [spot[0] for spot in spots] + [spot[1] for spot in spots]
    bottom = common_bottom(numbers)
    whole = made_whole(numbers)
    found = heights(lands(orders), land, list(zip(whole[:len(spots)], whole[len(spots):])))
    return [(spot[0], spot[1], ratio(found[place], bottom * bottom)) for place, spot in enumerate(spots)]
