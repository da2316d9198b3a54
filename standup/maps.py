"""Maps: their ties and lands, and whether they hang together and lie on a sheet."""

from standup.errors import NoMap


# A number below nought would be counted from the end of a list, so it is
# looked for ahead of the orders being asked.
def is_wrong(orders, place):
    order = orders[place]
    if len(set(order)) != len(order):
        return True
    for neighbour in order:
        if neighbour == place or neighbour < 0 or neighbour >= len(orders):
            return True
        if place not in orders[neighbour]:
            return True
    return False


def looked(orders):
    for place in range(len(orders)):
        if is_wrong(orders, place):
            raise NoMap(place)


def ties(orders):
    found = []
    for place, order in enumerate(orders):
        found.extend([(place, neighbour) for neighbour in sorted(order) if place < neighbour])
    return found


# Told is a dict that has each place come to from the start, the start too,
# without going through a place that is shut.
def come_to(orders, start, shut):
    reached = {start: True}
    waiting = [start]
    while len(waiting) > 0:
        place = waiting.pop()
        for neighbour in orders[place]:
            if neighbour not in reached and neighbour not in shut:
                reached[neighbour] = True
                waiting.append(neighbour)
    return reached


def hangs(orders):
    return len(come_to(orders, 0, [])) == len(orders)


# Ahead of the first one stands the last one, which Python counts as -1.
def onward(orders, one, other):
    order = orders[other]
    return order[order.index(one) - 1]


def ring_from(orders, one, other):
    ring = [one]
    here = other
    there = onward(orders, one, other)
    while (here, there) != (one, other):
        ring.append(here)
        beyond = onward(orders, here, there)
        here = there
        there = beyond
    return ring


# The least list begins at the least place, but that may stand there more than once.
def least_begun(ring):
    least = min(ring)
    return min([ring[k:] + ring[:k] for k in range(len(ring)) if ring[k] == least])


# The ties along a ring, each as (from, to), in the way in which the land lies at their left.
def steps(ring):
    return list(zip(ring, ring[1:] + ring[:1]))


def lands(orders):
    gone = {}
    rings = []
    for one, order in enumerate(orders):
        for other in order:
            if (one, other) not in gone:
                ring = ring_from(orders, one, other)
                rings.append(least_begun(ring))
                for step in steps(ring):
                    gone[step] = True
    return sorted(rings)


# Told is a dict that has, for each (from, to), the number of the land at the left.
def left_lands(rings):
    left = {}
    for land, ring in enumerate(rings):
        for step in steps(ring):
            left[step] = land
    return left


def count(orders):
    alone = len([order for order in orders if len(order) == 0])
    return len(orders) + len(lands(orders)) - len(ties(orders)) + alone
