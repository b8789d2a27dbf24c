"""A board: the units that stand in the places of a map."""

from atonce.errors import Crowded, NoSide, NoUnit

LAST_SIDE = 7


class Board:
    def __init__(self, chart):
        # The map itself and no copy: what is made neighbours there later counts here.
        self.chart = chart
        self.units = {}

    # The checks stand in the order in which refusals go ahead of one another.
    def post(self, at, side):
        self.chart.need_place(at)
        if side < 0 or side > LAST_SIDE:
            raise NoSide(f"{side} is no side")
        if at in self.units:
            raise Crowded(f"a unit stands in place {at}")
        self.units[at] = side

    def side_at(self, at):
        self.chart.need_place(at)
        return self.units.get(at)

    # The orders ask this too: where a unit stands is the board's to say.
    def need_unit(self, at):
        if self.side_at(at) is None:
            raise NoUnit(f"no unit stands in place {at}")

    def lift(self, at):
        self.need_unit(at)
        self.units.pop(at)

    def roll(self):
        return sorted(self.units.items())
