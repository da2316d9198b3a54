"""Solids: the least convex bodies that have given points, their lands and maps, and solids turned over.

A point is reckoned as four whole numbers: x, y, z and the bottom that they
share. A plane is four, too: their products with those of a point sum to a
number above 0 outside of the plane, 0 on it, and below 0 inside.
"""

from standup.drawing import turn, whole_spot
from standup.errors import Flat, NotInside
from standup.maps import least_begun, steps
from standup.ratios import below, ratio

# Which numbers of a point are its spot as seen from the far end of x, of y and
# of z; the last three are those by which the last number of a plane is found.
VIEWS = ((1, 2, 3), (2, 0, 3), (0, 1, 3), (1, 0, 2))

# The point that is endlessly far up.
UP = (0, 0, 1, 0)


def seen(point, view):
    return [point[k] for k in view]


# Seen from outside the three go round to the left.
def plane_through(first, second, third):
    return [turn(seen(first, view), seen(second, view), seen(third, view)) for view in VIEWS]


def side(plane, point):
    return plane[0] * point[0] + plane[1] * point[1] + plane[2] * point[2] + plane[3] * point[3]


# A plane that touches the solid is swung round a line on it, through all of
# the solid, until it touches it at the other side. The points take up less than
# half a round, so any of them that is still outside lies farther on.
def swung(plane, one, other, points):
    found = [-number for number in plane]
    for point in points:
        if side(found, point) > 0:
            found = plane_through(one, other, point)
    return found


# Told is a dict that has the spot of each point on the plane, as seen from outside.
def seen_flat(plane, points):
    axis = [k for k in range(3) if plane[k] != 0][0]
    view = VIEWS[axis]
    if plane[axis] < 0:
        view = (view[1], view[0], view[2])
    spots = {}
    for number, point in enumerate(points):
        if side(plane, point) == 0:
            spots[number] = seen(point, view)
    return spots


# Points are numbered by their x, then y, then z, so along a line the numbers
# rise or fall: of two in one line with a corner, the one of the farther number
# is farther off.
def is_rather(spots, here, found, number):
    turned = turn(spots[here], spots[found], spots[number])
    return turned < 0 or (turned == 0 and abs(number - here) > abs(found - here))


# From a corner to the next one all other spots lie at the left, or between the two.
def next_corner(spots, here):
    found = here
    for number in spots:
        if is_rather(spots, here, found, number):
            found = number
    return found


def ring_on(plane, points, first):
    spots = seen_flat(plane, points)
    ring = [first]
    corner = next_corner(spots, first)
    while corner != first:
        ring.append(corner)
        corner = next_corner(spots, corner)
    return ring


# No x is less than that of the first point, so the plane of this x touches the
# solid there; it is swung round the upright line through it, and then round
# the edge of the solid that it has come to. (Points of the same x have no
# lesser y, so they lie where the first swing begins, none where it ends.)
def first_plane(points):
    least = points[0]
    upright = swung([-least[3], 0, 0, least[0]], UP, least, points)
    corner = next_corner(seen_flat(upright, points), 0)
    plane = swung(upright, points[corner], least, points)
    if all([side(plane, point) == 0 for point in points]):
        raise Flat("all points lie on one plane")
    return plane


# Told is a list of tuples (ring, plane). Beyond each edge of a land that is found lies the next one.
def wrapped(points):
    plane = first_plane(points)
    ring = ring_on(plane, points, 0)
    found = [(ring, plane)]
    waiting = [(ring, plane)]
    gone = dict([(step, True) for step in steps(ring)])
    while len(waiting) > 0:
        land = waiting.pop()
        for here, there in steps(land[0]):
            if (there, here) not in gone:
                plane = swung(land[1], points[there], points[here], points)
                ring = ring_on(plane, points, there)
                found.append((ring, plane))
                waiting.append((ring, plane))
                gone.update(dict([(step, True) for step in steps(ring)]))
    return found


def comes_ahead(one, other):
    for first, second in zip(one, other):
        if first != second:
            return below(first, second)
    return False


# The numbers of the points, of alike ones the first, by x, then y, then z.
def put_in_order(points):
    unlike = [number for number, point in enumerate(points) if points.index(point) == number]
    return sorted(unlike, key=lambda number: len([one for one in points if comes_ahead(one, points[number])]))


# Told is a list of tuples (ring, plane), the rings as they are told.
def lands_with_planes(points):
    if len(points) == 0:
        raise Flat("there are no points")
    numbers = put_in_order(points)
    found = []
    for ring, plane in wrapped([whole_spot(points[number]) for number in numbers]):
        found.append((least_begun([numbers[corner] for corner in ring]), plane))
    return sorted(found)


def solid_lands(points):
    return [ring for ring, plane in lands_with_planes(points)]


# The land lies at the left of the tie from a corner to the next one, so the tie
# to the one ahead comes behind it in the corner's order. Told is a dict that
# has, for each (corner, neighbour), the neighbour behind that one.
def neighbours_behind(rings):
    behind = {}
    for ring in rings:
        for corner, after, ahead in zip(ring, ring[1:] + ring[:1], ring[-1:] + ring[:-1]):
            behind[(corner, after)] = ahead
    return behind


def order_from(behind, corner, first):
    order = [first]
    while behind[(corner, order[-1])] != first:
        order.append(behind[(corner, order[-1])])
    return order


def solid_map(points):
    behind = neighbours_behind(solid_lands(points))
    # Of the pairs with one corner the last one stays: its order begins there.
    firsts = dict(list(behind))
    corners = sorted(firsts)
    orders = []
    for corner in corners:
        order = order_from(behind, corner, firsts[corner])
        orders.append([corners.index(neighbour) for neighbour in order])
    return (corners, orders)


def turned_over(points):
    planes = [plane for ring, plane in lands_with_planes(points)]
    if not all([plane[3] < 0 for plane in planes]):
        raise NotInside("(0, 0, 0) does not lie strictly inside of the solid")
    return [tuple([ratio(number, -plane[3]) for number in plane[:3]]) for plane in planes]
