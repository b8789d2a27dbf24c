"""What several test files need: refusals, maps and boards, and a model of the document's points in plain data."""

import random
import unittest

from atonce.board import Board
from atonce.errors import Crowded, NoPlace, NoSide, NoUnit, OrderError, OutOfReach
from atonce.maps import Map
from atonce.orders import Orders

# In the order in which they go ahead of one another.
REFUSALS = (NoPlace, NoSide, Crowded, NoUnit, OutOfReach)

STAND = ("stand",)


def no_places(size):
    return sorted({-1, -2, -size, -size - 1, -1000, size, size + 1, 2 * size, 1000, 10 ** 12})


class RefusalCase(unittest.TestCase):
    def assert_refused(self, due, call, *args):
        with self.subTest(due=due.__name__, args=args):
            with self.assertRaises(ValueError) as caught:
                call(*args)
            self.assertIsInstance(caught.exception, OrderError)
            raised = [kind for kind in REFUSALS if isinstance(caught.exception, kind)]
            self.assertEqual(raised, [due])

    def assert_told(self, found, expected):
        self.assertIs(type(found), list)
        self.assertEqual(found, expected)
        self.assertEqual([type(row) for row in found], [type(row) for row in expected])


def line(size):
    return [(at, at + 1) for at in range(size - 1)]


def ring(size):
    return line(size) + [(size - 1, 0)]


def star(size):
    return [(size - 1, at) for at in range(size - 2, -1, -1)]


def whole(size):
    return [(b, a) for a in range(size) for b in range(a + 1, size)]


def leaps(size):
    return [(at, at * 7 % size) for at in range(size - 1, -1, -1) if at != at * 7 % size]


def linked(size, pairs):
    chart = Map(size)
    for a, b in pairs:
        chart.link(a, b)
    return chart


def filled(chart, units):
    board = Board(chart)
    for at, side in units:
        board.post(at, side)
    return board


def posted(size, units):
    return filled(Map(size), units)


def go(goal):
    return ("move", goal)


def aid(helped, goal):
    return ("help", helped, goal)


def give(orders, at, order):
    if order[0] == "move":
        orders.move(at, order[1])
    elif order[0] == "help":
        orders.aid(at, order[1], order[2])
    else:
        orders.stand(at)


class Position:
    """A position in plain data, with the points' answers worked out as the document words them.

    links: pairs of places; units: place to side; given: place to order, as told tells it.
    """

    def __init__(self, size, links, units, given):
        self.size = size
        self.links = links
        self.units = units
        self.given = given
        self.moves = {at: order[1] for at, order in given.items() if order[0] == "move"}
        self.neighbours = {at: set() for at in range(size)}
        for a, b in links:
            self.neighbours[a].add(b)
            self.neighbours[b].add(a)

    def __repr__(self):
        return f"Position({self.size}, {self.links}, {self.units}, {self.given})"

    def orders(self):
        orders = Orders(filled(linked(self.size, self.links), self.units.items()))
        for at, order in self.given.items():
            give(orders, at, order)
        return orders

    def near(self, at):
        return sorted(self.neighbours[at])

    def told(self, at):
        return self.given.get(at, STAND)

    def is_cut(self, at):
        order = self.told(at)
        return order[0] == "help" and any(
            self.units[foe] != self.units[at] and goal == at and foe != order[2]
            for foe, goal in self.moves.items())

    def counts(self, at):
        order = self.told(at)
        if order[0] != "help" or self.is_cut(at):
            return False
        helped, goal = order[1:]
        if goal == helped:
            return helped not in self.moves
        return self.moves.get(helped) == goal

    def helpers(self, at, goal):
        return [helper for helper in self.units if self.told(helper) == aid(at, goal) and self.counts(helper)]

    def force(self, at):
        if at not in self.moves:
            return 0
        return 1 + len(self.helpers(at, self.moves[at]))

    def force_against(self, at, side):
        if at not in self.moves:
            return 0
        return 1 + sum(self.units[helper] != side for helper in self.helpers(at, self.moves[at]))

    def firmness(self, at):
        if at in self.moves:
            return 1
        return 1 + len(self.helpers(at, at))

    def fault(self, a, places):
        b = self.moves[a]
        if any(goal == b and other != a and not self.force(other) < self.force(a)
               for other, goal in self.moves.items()):
            return 1
        if b not in self.units:
            return None
        foe = self.units[b]
        if self.moves.get(b) == a:
            return None if foe != self.units[a] and self.force_against(a, foe) > self.force(b) else 2
        if b in places:
            return None
        return None if foe != self.units[a] and self.force_against(a, foe) > self.firmness(b) else 3

    def can_stand(self, places):
        return all(self.fault(at, places) is None for at in places)

    def strikes(self):
        left = sorted(self.moves)
        struck = []
        for count in range(1, len(self.moves) + 2):
            fallen = [(count, at, self.fault(at, left)) for at in left if self.fault(at, left) is not None]
            struck += fallen
            left = [at for at in left if at not in [row[1] for row in fallen]]
        return struck

    def settled(self):
        return sorted(set(self.moves) - {row[1] for row in self.strikes()})

    def outcome(self):
        """What comes of it, without the units aside having gone: done, aside, shut, and the units on the board."""
        done = [(at, self.moves[at]) for at in self.settled()]
        reached = {b: a for a, b in done}
        aside = sorted((b, self.units[b], a) for b, a in reached.items() if b in self.units and b not in dict(done))
        shut = sorted(set(self.moves.values()) - set(reached))
        gone = set(dict(done)) | {row[0] for row in aside}
        units = {at: side for at, side in self.units.items() if at not in gone}
        for a, b in done:
            assert b not in units
            units[b] = self.units[a]
        return done, aside, shut, units

    def may_go(self):
        """For each unit aside, the places that it may go to."""
        done, aside, shut, units = self.outcome()
        return {at: [b for b in self.near(at) if b not in units and b != source and b not in shut]
                for at, side, source in aside}

    def after(self, told):
        done, aside, shut, units = self.outcome()
        free = self.may_go()
        lost = []
        for at, side, source in aside:
            goals = [goal for one, goal in told if one == at]
            others = [goal for one, goal in told if one != at]
            if goals and goals[0] in free[at] and goals[0] not in others:
                units[goals[0]] = side
            else:
                lost.append(at)
        return sorted(units.items()), lost


def crowd(sides, given):
    """Units in the first of nine places that are all neighbours; 8 is empty."""
    return Position(9, whole(9), dict(enumerate(sides)), given)


def legal_helps(position, at):
    return [aid(helped, goal) for goal in position.near(at) for helped in position.units
            if helped != at and (goal == helped or goal in position.near(helped))]


def legal_orders(position, at):
    return [STAND] + [go(goal) for goal in position.near(at)] + legal_helps(position, at)


def fitting(position, helps):
    """Those that fit a move, else those that fit a unit which stands, else all."""
    to_move = [order for order in helps if position.moves.get(order[1]) == order[2]]
    to_stand = [order for order in helps if order[1] == order[2] and order[1] not in position.moves]
    return to_move or to_stand or helps


def random_position(seed, size, degree, sides):
    """Many moves, and helps that mostly fit a move or a unit that stands."""
    chance = random.Random(seed)
    links = [(a, b) for a in range(size) for b in range(size) if a != b and chance.random() * 2 * size < degree]
    units = {at: chance.randrange(sides) for at in chance.sample(range(size), chance.randint(size // 2, size))}
    bare = Position(size, links, units, {})
    given = {at: go(chance.choice(bare.near(at))) for at in units if bare.near(at) and chance.random() < 0.5}
    moving = Position(size, links, units, given)
    helping = {}
    for at in units:
        helps = legal_helps(moving, at)
        if at not in given and helps and chance.random() < 0.8:
            helping[at] = chance.choice(fitting(moving, helps) if chance.random() < 0.8 else helps)
    return Position(size, links, units, {**given, **helping})


def random_positions():
    for seed in range(200):
        yield random_position(seed, 3 + seed % 9, 2 + seed % 5, 2 + seed % 4)
    for seed in range(20):
        yield random_position(1000 + seed, 60, 3 + seed % 6, 2 + seed % 7)


def triangle_positions():
    """All there are on three places that are all neighbours, with units of two sides."""
    for code in range(27):
        units = {at: code // 3 ** at % 3 for at in range(3) if code // 3 ** at % 3 < 2}
        bare = Position(3, whole(3), units, {})
        chosen = [{}]
        for at in units:
            chosen = [{**given, at: order} for given in chosen for order in legal_orders(bare, at)]
        for given in chosen:
            yield Position(3, whole(3), units, given)
