"""Rows of fractions: the one answer that they have, and their determinant.

The rows are made whole first and cleared column by column in whole numbers:
fractions would have to be put in lowest terms at every step.
"""

from standup.errors import NoOne
from standup.ratios import common_divisor, ratio


# The least number that every bottom of the row divides.
def common_bottom(row):
    bottom = 1
    for number in row:
        bottom = bottom // common_divisor(bottom, number[1]) * number[1]
    return bottom


def made_whole(row):
    bottom = common_bottom(row)
    return [number[0] * (bottom // number[1]) for number in row]


# A row added to another one changes neither the answer nor the determinant,
# so no sign has to be kept as it would be where rows change places.
def led(rows, column):
    first = rows[column]
    if first[column] != 0:
        return rows
    for row in rows[column + 1:]:
        if row[column] != 0:
            joined = [one + other for one, other in zip(first, row)]
            return rows[:column] + [joined] + rows[column + 1:]
    raise NoOne("the rows have no answer, or more than one")


# The division leaves no rest: behind each step every number is, but for its
# sign, the determinant of some of the rows and columns (Bareiss's way).
def row_cleared(row, leader, column, last):
    lead = leader[column]
    part = row[column]
    return [(lead * one - part * other) // last for one, other in zip(row, leader)]


def column_cleared(rows, column, last):
    leader = rows[column]
    above = [row_cleared(row, leader, column, last) for row in rows[:column]]
    under = [row_cleared(row, leader, column, last) for row in rows[column + 1:]]
    return above + [leader] + under


# Told are rows of the same answer, with the determinant of the rows handed in
# at each row's own column, and 0 at the columns of the other rows.
def cleared(rows):
    last = 1
    whole = rows
    for column in range(len(rows)):
        whole = column_cleared(led(whole, column), column, last)
        last = whole[column][column]
    return whole


def solved(rows, goals):
    joined = [made_whole(row + [goal]) for row, goal in zip(rows, goals)]
    return [ratio(row[-1], row[k]) for k, row in enumerate(cleared(joined))]


def determinant(rows):
    if len(rows) == 0:
        return (1, 1)
    bottom = 1
    for row in rows:
        bottom = bottom * common_bottom(row)
    try:
        whole = cleared([made_whole(row) for row in rows])
    except NoOne:
        return (0, 1)
    return ratio(whole[0][0], bottom)
