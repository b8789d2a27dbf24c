"""Orders: what each unit of a board is told to do."""

from atonce.errors import OutOfReach

STAND = ("stand",)


class Orders:
    def __init__(self, board):
        self.board = board
        # A unit without an entry has been given no order yet, and stands.
        self.given = {}

    def stand(self, at):
        self.board.need_unit(at)
        self.given[at] = STAND

    def move(self, at, goal):
        self.need_all([at, goal], [at])
        self.need_beside(at, goal)
        self.given[at] = ("move", goal)

    def aid(self, at, helped, goal):
        self.need_all([at, helped, goal], [at, helped])
        if helped == at:
            raise OutOfReach(f"the unit in place {at} can not help itself")
        self.need_beside(at, goal)
        # A goal that is the helped unit's own place is help to stand, for which that unit goes nowhere.
        if goal != helped:
            self.need_beside(helped, goal)
        self.given[at] = ("help", helped, goal)

    def told(self, at):
        self.board.need_unit(at)
        return self.given.get(at, STAND)

    def movers(self):
        return sorted([at for at in self.given if self.goal_of(at) is not None])

    # The goal of a move alone: a help's goal is none that its unit goes to.
    def goal_of(self, at):
        order = self.given.get(at, STAND)
        if order[0] == "move":
            return order[1]
        return None

    # All numbers are looked at before any unit is: NoPlace comes ahead of NoUnit.
    def need_all(self, places, units):
        for at in places:
            self.board.chart.need_place(at)
        for at in units:
            self.board.need_unit(at)

    def need_beside(self, at, goal):
        if not self.board.chart.beside(at, goal):
            raise OutOfReach(f"place {goal} is no neighbour of place {at}")
