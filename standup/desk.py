"""A desk with a map on it, on which deeds are done, taken back and done again."""

from standup.changes import other_map, placed, tied, untied
from standup.errors import NoStep
from standup.maps import looked
from standup.standing import stood_up


# No map that the desk keeps is ever changed: a deed tells a new one, and what
# is handed in or told is a copy.
class Desk:
    def __init__(self, orders):
        looked(orders)
        self.laid = [order[:] for order in orders]
        self.behind = []
        self.taken = []

    def orders(self):
        return [order[:] for order in self.laid]

    # A refusal comes ahead of this, so it leaves the desk as it is.
    def lay(self, orders):
        self.behind.append(self.laid)
        self.laid = orders
        self.taken = []

    def put_tie(self, land, one, other):
        self.lay(tied(self.laid, land, one, other))

    def take_tie(self, one, other):
        self.lay(untied(self.laid, one, other))

    def put_place(self, land, corners):
        self.lay(placed(self.laid, land, corners))

    def turn_inside(self):
        self.lay(other_map(self.laid))

    def back(self):
        if len(self.behind) == 0:
            raise NoStep("no deed is left to be taken back")
        self.taken.append(self.laid)
        self.laid = self.behind.pop()

    def again(self):
        if len(self.taken) == 0:
            raise NoStep("no deed is left to be done again")
        self.behind.append(self.laid)
        self.laid = self.taken.pop()

    def points(self):
        return stood_up(self.laid)
