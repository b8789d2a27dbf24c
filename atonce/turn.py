"""A turn: what comes of the orders, and where the units that were pushed out go."""

from atonce.board import Board
from atonce.errors import NoUnit
from atonce.settle import settled


def posted_board(chart, units):
    board = Board(chart)
    for at, side in units:
        board.post(at, side)
    return board


def units_after(board, goals, comers):
    moved = [(goals[at], side) for at, side in board.roll() if at in goals]
    stayed = [(at, side) for at, side in board.roll() if at not in goals and at not in comers]
    return moved + stayed


class Turn:
    def __init__(self, orders):
        # All of it is found here and kept, so that orders which are given later change nothing.
        self.goals = {}
        self.comers = {}
        for at in settled(orders):
            self.goals[at] = orders.goal_of(at)
            self.comers[orders.goal_of(at)] = at
        self.pushed = {}
        for at, side in orders.board.roll():
            if at in self.comers and at not in self.goals:
                self.pushed[at] = side
        wanted = [orders.goal_of(at) for at in orders.movers()]
        self.closed = sorted(set(wanted) - set(self.comers))
        self.board = posted_board(orders.board.chart, units_after(orders.board, self.goals, self.comers))

    def done(self):
        return sorted(self.goals.items())

    def aside(self):
        return [(at, self.pushed[at], self.comers[at]) for at in sorted(self.pushed)]

    def shut(self):
        return list(self.closed)

    def may_go(self, at):
        self.board.chart.need_place(at)
        self.need_aside(at)
        empty = [goal for goal in self.board.chart.near(at) if self.board.side_at(goal) is None]
        return [goal for goal in empty if goal != self.comers[at] and goal not in self.closed]

    def need_aside(self, at):
        if at not in self.pushed:
            raise NoUnit(f"no unit stands aside under place {at}")


# All numbers of all pairs are looked at before any unit is: NoPlace comes ahead of NoUnit.
def check_told(turn, told):
    for at, goal in told:
        turn.board.chart.need_place(at)
        turn.board.chart.need_place(goal)
    for at, goal in told:
        turn.need_aside(at)


def after(turn, told):
    check_told(turn, told)
    # A place that a unit may not go to is among these too, and is told against the others.
    goals = [goal for at, goal in told]
    goers = {}
    for at, goal in told:
        if goals.count(goal) == 1 and goal in turn.may_go(at):
            goers[at] = goal
    went = [(goers[at], side) for at, side, source in turn.aside() if at in goers]
    lost = [at for at, side, source in turn.aside() if at not in goers]
    return (posted_board(turn.board.chart, turn.board.roll() + went), lost)
