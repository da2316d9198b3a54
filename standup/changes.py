"""Maps changed: ties and places put in, ties taken out, the other map, other names, and maps held side by side."""

from standup.errors import NoNames, NoOther, NoTie
from standup.maps import lands, left_lands, steps, ties


# A corner's two ties stand side by side in the order, the one to the place
# ahead in the ring last: what is put ahead of that one leaves into the land.
def put_ahead(order, new, old):
    where = order.index(old)
    return order[:where] + [new] + order[where:]


# Ahead of the first corner stands the last one, which Python counts as -1.
def tied(orders, land, one, other):
    ring = lands(orders)[land]
    first = ring[one]
    second = ring[other]
    if first == second or second in orders[first]:
        raise NoTie("a tie is put in between unlike places that are no neighbours")
    changed = [order[:] for order in orders]
    changed[first] = put_ahead(orders[first], second, ring[one - 1])
    changed[second] = put_ahead(orders[second], first, ring[other - 1])
    return changed


def untied(orders, one, other):
    if (min(one, other), max(one, other)) not in ties(orders):
        raise NoTie("a tie is taken out between neighbours")
    changed = [order[:] for order in orders]
    changed[one].remove(other)
    changed[other].remove(one)
    return changed


def rises(numbers):
    return all([one < other for one, other in zip(numbers, numbers[1:])])


def placed(orders, land, corners):
    if len(corners) == 0 or not rises(corners):
        raise NoTie("a place is put in at a rising list of one corner or more")
    ring = lands(orders)[land]
    joined = [ring[corner] for corner in corners]
    if len(set(joined)) != len(joined):
        raise NoTie("a place is put in at corners of unlike places")
    changed = [order[:] for order in orders]
    for corner in corners:
        place = ring[corner]
        changed[place] = put_ahead(orders[place], len(orders), ring[corner - 1])
    return changed + [joined]


def other_map(orders):
    rings = lands(orders)
    left = left_lands(rings)
    turned = []
    for land, ring in enumerate(rings):
        order = [left[(there, here)] for here, there in steps(ring)]
        if land in order or len(set(order)) != len(order):
            raise NoOther("a land has itself beyond a tie, or another one beyond two")
        turned.append(order)
    return turned


def mirrored(orders):
    return [order[::-1] for order in orders]


def renamed(orders, names):
    if sorted(names) != list(range(len(orders))):
        raise NoNames("the names are not all places of the map, each once")
    changed = [[] for order in orders]
    for place, order in enumerate(orders):
        changed[names[place]] = [names[neighbour] for neighbour in order]
    return changed


def begun_at(order, first):
    where = order.index(first)
    return order[where:] + order[:where]


def orders_alike(one, other):
    if len(one) != len(other):
        return False
    if len(one) == 0:
        return True
    return one[0] in other and begun_at(other, one[0]) == one


def same(one, other):
    return len(one) == len(other) and all([orders_alike(first, second) for first, second in zip(one, other)])


# With the names of place 0 and of its first neighbour all other names follow,
# order by order; None where two of them don't agree. No name is given twice:
# round each name lies just what lies round its place, so every place of the
# other map is named, each as often as any other one, and there are as many.
def names_from(one, other, first, second):
    names = {0: first}
    waiting = [(0, one[0][0], second)]
    while len(waiting) > 0:
        step = waiting.pop()
        place = step[0]
        order = begun_at(one[place], step[1])
        goal = begun_at(other[names[place]], step[2])
        if len(order) != len(goal):
            return None
        for neighbour, name in zip(order, goal):
            if neighbour not in names:
                names[neighbour] = name
                waiting.append((neighbour, place, names[place]))
            if names[neighbour] != name:
                return None
    return [names[place] for place in range(len(one))]


# The least list has the least name for place 0, so no greater one is tried where that is found.
def alike(one, other):
    if len(one) != len(other):
        return None
    if len(one) == 1:
        return [0]
    for first, order in enumerate(other):
        tried = [names_from(one, other, first, second) for second in order]
        found = [names for names in tried if names is not None]
        if len(found) > 0:
            return min(found)
    return None
