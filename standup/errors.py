"""The refusals of the program, each a class of its own straight under MapError."""


class MapError(ValueError):
    pass


class NoNumber(MapError):
    pass


class NoOne(MapError):
    pass


class NoTie(MapError):
    pass


class NoOther(MapError):
    pass


class NoNames(MapError):
    pass


class NoLand(MapError):
    pass


class NoFrame(MapError):
    pass


class NoThree(MapError):
    pass


class Flat(MapError):
    pass


class NotInside(MapError):
    pass


class NoStep(MapError):
    pass


# The words of the errors below leave their values out: a number may have more
# figures than Python is willing to write.


class NoText(MapError):
    def __init__(self, row):
        MapError.__init__(self, "a row of the text does not tell its place")
        self.row = row


class NoMap(MapError):
    def __init__(self, place):
        MapError.__init__(self, "a place has an order that no map has")
        self.place = place


class NoSheet(MapError):
    def __init__(self, count):
        MapError.__init__(self, "the map does not lie on a sheet")
        self.count = count


class Parted(MapError):
    def __init__(self, places):
        MapError.__init__(self, "the map is not tight")
        # A copy, so that what is done later to the list handed in does not reach the error.
        self.places = places[:]
