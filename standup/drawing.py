"""Drawings of maps on a sheet: each inner place the middle of its neighbours, and what lies where in a drawing."""

from standup.errors import NoFrame, NoLand, NoSheet, Parted
from standup.maps import count, hangs, lands, looked
from standup.parting import parting
from standup.ratios import ratio
from standup.rows import common_bottom, made_whole, solved


def looked_tight(orders):
    looked(orders)
    if not hangs(orders):
        raise NoSheet(None)
    number = count(orders)
    if number != 2:
        raise NoSheet(number)
    places = parting(orders)
    if places is None and len(orders) < 4:
        places = list(range(len(orders)))
    if places is not None:
        raise Parted(places)


def outer_ring(orders, land):
    looked_tight(orders)
    rings = lands(orders)
    if land < 0 or land >= len(rings):
        raise NoLand("the map has no land of this number")
    return rings[land]


# As whole numbers (across, up, bottom), the bottom from 1 on: so no fraction is put in lowest terms to see a turn.
def whole_spot(spot):
    return made_whole(spot) + [common_bottom(spot)]


# Above 0 where the third lies at the left of going from the first to the
# second, below 0 at the right, 0 where they lie on one line (three whole spots).
def turn(first, second, third):
    across = second[1] * third[2] - second[2] * third[1]
    up = second[2] * third[0] - second[0] * third[2]
    bottom = second[0] * third[1] - second[1] * third[0]
    return first[0] * across + first[1] * up + first[2] * bottom


# A ring goes round once to the left, with a turn at each corner, just where
# from each corner to the next one all others lie at the left.
def goes_left(corners):
    if len(corners) < 3:
        return False
    for k in range(len(corners)):
        begun = corners[k:] + corners[:k]
        if not all([turn(begun[0], begun[1], other) > 0 for other in begun[2:]]):
            return False
    return True


def is_inside(corners, spot):
    return all([turn(corners[k - 1], corners[k], spot) > 0 for k in range(len(corners))])


def plain_frame(corners):
    return [((k, 1), (k * k, 1)) for k in range(corners - 1, -1, -1)]


def looked_frame(frame, corners):
    if len(frame) != corners or not goes_left([whole_spot(spot) for spot in reversed(frame)]):
        raise NoFrame("the spots don't go round the land once to the right, with a turn at each corner")


def middle_row(order, place, inner):
    row = []
    for other in inner:
        if other == place:
            row.append((len(order), 1))
        elif other in order:
            row.append((-1, 1))
        else:
            row.append((0, 1))
    return row


# The numbers told for the fixed places are made whole by one bottom for all,
# so that they make none of the rows' own numbers longer.
def middles(orders, fixed):
    inner = [place for place in range(len(orders)) if place not in fixed]
    bottom = common_bottom(list(fixed.values()))
    whole = dict(zip(list(fixed), made_whole(list(fixed.values()))))
    rows = [middle_row(orders[place], place, inner) for place in inner]
    goals = [(sum([whole.get(neighbour, 0) for neighbour in orders[place]]), 1) for place in inner]
    found = dict(fixed)
    for place, number in zip(inner, solved(rows, goals)):
        found[place] = ratio(number[0], number[1] * bottom)
    return [found[place] for place in range(len(orders))]


def by_middles(orders, ring, frame):
    across = middles(orders, dict(zip(ring, [spot[0] for spot in frame])))
    up = middles(orders, dict(zip(ring, [spot[1] for spot in frame])))
    return list(zip(across, up))


def drawn(orders, land, frame=None):
    ring = outer_ring(orders, land)
    if frame is None:
        return by_middles(orders, ring, plain_frame(len(ring)))
    looked_frame(frame, len(ring))
    return by_middles(orders, ring, frame)


def right(orders, land, spots):
    whole = [whole_spot(spot) for spot in spots]
    for number, ring in enumerate(lands(orders)):
        corners = [whole[place] for place in ring]
        # The outer land is seen from behind: backwards its ring goes to the left.
        if number == land:
            corners = corners[::-1]
        if not goes_left(corners):
            return False
    return True


def land_at(orders, land, spots, spot):
    whole = [whole_spot(each) for each in spots]
    for number, ring in enumerate(lands(orders)):
        if number != land and is_inside([whole[place] for place in ring], whole_spot(spot)):
            return number
    return None
