"""Maps written as texts, and read."""

from standup.changes import begun_at
from standup.errors import NoText
from standup.maps import looked

FIGURES = "0123456789"
MOST_FIGURES = 60


def row_of(place, order):
    begun = begun_at(order, min(order)) if len(order) > 0 else []
    return " ".join([f"{place}:"] + [str(neighbour) for neighbour in begun])


def written(orders):
    return "\n".join([row_of(place, order) for place, order in enumerate(orders)])


# Python's own int takes more than a number word: signs, blanks, underlines and other figures.
def is_word(text):
    if len(text) == 0 or len(text) > MOST_FIGURES:
        return False
    return (text == "0" or text[0] != "0") and all([sign in FIGURES for sign in text])


# A row that tells its place begins with that one word, so the form of the word is not looked at.
def order_in(row, place):
    parts = row.split(" ")
    if parts[0] != f"{place}:" or not all([is_word(part) for part in parts[1:]]):
        raise NoText(place)
    return [int(part) for part in parts[1:]]


def read(text):
    orders = [order_in(row, place) for place, row in enumerate(text.split("\n"))]
    looked(orders)
    return orders
