"""Places that part a map, roads between two places, hues, and the count of trees."""

from standup.maps import come_to, ties
from standup.rows import determinant

# A place has two doors: roads come in at the one and leave by the other, and
# as the way between the two is gone once, a place is on one road at most.
IN = 0
OUT = 1


def parts(orders, places):
    left = [place for place in range(len(orders)) if place not in places]
    return len(left) > 1 and len(come_to(orders, left[0], places)) < len(left)


# All rising lists of at most two places, in the order in which they are asked.
def short_lists(size):
    lists = [[]]
    lists.extend([[one] for one in range(size)])
    for one in range(size):
        lists.extend([[one, other] for other in range(one + 1, size)])
    return lists


def parting(orders):
    for places in short_lists(len(orders)):
        if parts(orders, places):
            return places
    return None


# The ways that are open from each door, without the tie between the two places.
def open_ways(orders, one, other):
    ways = {}
    for place in range(len(orders)):
        ways[(place, IN)] = {(place, OUT): True}
        ways[(place, OUT)] = {}
    for tie in ties(orders):
        if tie != (min(one, other), max(one, other)):
            ways[(tie[0], OUT)][(tie[1], IN)] = True
            ways[(tie[1], OUT)][(tie[0], IN)] = True
    return ways


# Told is a dict that has, for each door come to, the door ahead of it; near doors come first.
def doors_from(ways, start):
    ahead = {start: None}
    waiting = [start]
    while len(waiting) > 0:
        door = waiting.pop(0)
        for beyond in ways[door]:
            if beyond not in ahead:
                ahead[beyond] = door
                waiting.append(beyond)
    return ahead


# A way that is gone is open backwards, so that a later road may take it over.
# A tie stays open forwards, too: so nothing but places stops a road.
def go_to(ways, ahead, goal):
    door = goal
    while ahead[door] is not None:
        last = ahead[door]
        ways[door][last] = True
        if last[0] == door[0] or last[1] == IN:
            ways[last].pop(door)
        door = last


# A tie that a road goes along is known by its way back.
def gone_on(orders, ways, place):
    return [neighbour for neighbour in orders[place] if (place, OUT) in ways[(neighbour, IN)]]


def road_by(orders, ways, start, goal):
    road = start
    while road[-1] != goal:
        road = road + gone_on(orders, ways, road[-1])
    return road


def roads(orders, one, other):
    found = []
    if other in orders[one]:
        found.append([one, other])
    ways = open_ways(orders, one, other)
    for number in range(len(found), 3):
        ahead = doors_from(ways, (one, OUT))
        if (other, IN) not in ahead:
            places = [place for place in range(len(orders)) if (place, IN) in ahead and (place, OUT) not in ahead]
            return ("parted", places)
        go_to(ways, ahead, (other, IN))
    found.extend([road_by(orders, ways, [one, first], other) for first in gone_on(orders, ways, one)])
    return ("roads", found)


# The first place that is not yet taken off and has at most five neighbours that are not, either.
def few_without(orders, off):
    for place, order in enumerate(orders):
        if place not in off and len([neighbour for neighbour in order if neighbour not in off]) <= 5:
            return place
    return None


def few(orders):
    return few_without(orders, {})


# What is left of a map on a sheet is one, or several such, so there is always a place to take off.
def taken_off(orders):
    off = {}
    while len(off) < len(orders):
        off[few_without(orders, off)] = True
    return list(off)


def free_hues(orders, found, place):
    taken = [found[neighbour] for neighbour in orders[place] if neighbour in found]
    return [hue for hue in range(5) if hue not in taken]


# The places come to from a place through places of two hues alone.
def two_hued(orders, found, start, pair):
    shut = [place for place in range(len(orders)) if found.get(place) not in pair]
    return come_to(orders, start, shut)


# Five neighbours of five hues: two of them don't come to each other through
# their own two hues (the ways between two such pairs would cross on the
# sheet), so round the one the two hues change places, and its own is free.
def freed(orders, found, place):
    near = [neighbour for neighbour in orders[place] if neighbour in found]
    for one in near:
        for other in near:
            pair = (found[one], found[other])
            group = two_hued(orders, found, one, pair)
            if other not in group:
                for member in group:
                    found[member] = pair[0] + pair[1] - found[member]
                return


def hues(orders):
    found = {}
    for place in reversed(taken_off(orders)):
        if len(free_hues(orders, found, place)) == 0:
            freed(orders, found, place)
        found[place] = free_hues(orders, found, place)[0]
    return [found[place] for place in range(len(orders))]


# By Kirchhoff's rule the trees are as many as the determinant of these rows
# tells: how many neighbours a place has, less 1 at each, without the last place.
def tree_row(order, place, size):
    row = [(0, 1)] * size
    row[place] = (len(order), 1)
    for neighbour in order:
        if neighbour < size:
            row[neighbour] = (-1, 1)
    return row


def trees(orders):
    size = len(orders) - 1
    rows = [tree_row(orders[place], place, size) for place in range(size)]
    return determinant(rows)[0]
