"""Fractions: tuples (top, bottom) in lowest terms, with a bottom from 1 on."""

from standup.errors import NoNumber


# The greatest number that divides both; 0 for two noughts.
def common_divisor(one, other):
    great = abs(one)
    small = abs(other)
    while small != 0:
        rest = great % small
        great = small
        small = rest
    return great


def ratio(top, bottom):
    if bottom == 0:
        raise NoNumber("nothing is divided by 0")
    divisor = common_divisor(top, bottom)
    # The sign goes up, as a bottom is from 1 on.
    if bottom < 0:
        divisor = -divisor
    return (top // divisor, bottom // divisor)


def plus(one, other):
    return ratio(one[0] * other[1] + other[0] * one[1], one[1] * other[1])


def minus(one, other):
    return ratio(one[0] * other[1] - other[0] * one[1], one[1] * other[1])


def times(one, other):
    return ratio(one[0] * other[0], one[1] * other[1])


def over(one, other):
    return ratio(one[0] * other[1], one[1] * other[0])


def below(one, other):
    return one[0] * other[1] < other[0] * one[1]
