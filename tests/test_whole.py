"""The whole program: no order of looking decides anything, no unit is lost by the way, what is handed in stays."""

import copy
import random
import unittest

from atonce.force import counts, firmness, force, force_against, is_cut
from atonce.orders import Orders
from atonce.settle import can_stand, settled, strikes
from atonce.turn import Turn, after
from tests.helper import STAND, Position, filled, give, legal_orders, linked, random_positions, triangle_positions


def renamed_order(order, names):
    return order[:1] + tuple(names[at] for at in order[1:])


def mixed(chance, found):
    return chance.sample(list(found), len(found))


def renamed(position, names, chance):
    """The same position with the places counted otherwise, and all of it told in another order."""
    links = [(names[a], names[b])[::chance.choice((1, -1))] for a, b in mixed(chance, position.links)]
    units = {names[at]: position.units[at] for at in mixed(chance, position.units)}
    given = {names[at]: renamed_order(position.given[at], names) for at in mixed(chance, position.given)}
    return Position(position.size, links, units, given)


def seen_units(orders, names):
    """Each unit's answers, under the names."""
    return {names[at]: (renamed_order(orders.told(at), names), is_cut(orders, at), counts(orders, at),
                        force(orders, at), firmness(orders, at), [force_against(orders, at, n) for n in range(8)])
            for at, side in orders.board.roll()}


def seen_moves(orders, names):
    """The movers, the strikes and the moves that are done, under the names."""
    return (sorted(names[at] for at in orders.movers()),
            sorted((count, names[at], which) for count, at, which in strikes(orders)),
            sorted(names[at] for at in settled(orders)))


def seen_turn(turn, told, names):
    """A turn's answers, under the names."""
    board, lost = after(turn, told)
    return (sorted((names[a], names[b]) for a, b in turn.done()),
            sorted((names[at], side, names[source]) for at, side, source in turn.aside()),
            sorted(names[at] for at in turn.shut()),
            sorted((names[at], side) for at, side in turn.board.roll()),
            {names[at]: sorted(names[goal] for goal in turn.may_go(at)) for at, side, source in turn.aside()},
            sorted((names[at], side) for at, side in board.roll()),
            sorted(names[at] for at in lost))


def some_told(turn, chance):
    """Places for most of the units aside, often ones that they may go to."""
    told = []
    for at, side, source in turn.aside():
        if chance.random() < 0.9:
            told.append((at, chance.choice(turn.may_go(at) * 3 + turn.board.chart.near(at))))
    return told


class OtherNamesTest(unittest.TestCase):
    def assert_the_same(self, position, chance):
        same = list(range(position.size))
        names = mixed(chance, same)
        other = renamed(position, names, chance)
        orders, other_orders = position.orders(), other.orders()
        self.assertEqual(seen_units(orders, names), seen_units(other_orders, same), position)
        self.assertEqual(seen_moves(orders, names), seen_moves(other_orders, same), position)
        turn, other_turn = Turn(orders), Turn(other_orders)
        told = some_told(turn, chance)
        other_told = [(names[at], names[goal]) for at, goal in mixed(chance, told)]
        self.assertEqual(seen_turn(turn, told, names), seen_turn(other_turn, other_told, same), position)
        places = chance.sample(orders.movers(), chance.randint(0, len(orders.movers())))
        self.assertIs(can_stand(orders, places), can_stand(other_orders, [names[at] for at in places][::-1]), position)

    def test_on_a_triangle(self):
        chance = random.Random(2)
        for position in triangle_positions():
            self.assert_the_same(position, chance)

    def test_many_positions(self):
        chance = random.Random(3)
        for position in random_positions():
            self.assert_the_same(position, chance)


class OtherWayTest(unittest.TestCase):
    def test_elder_orders_leave_no_trace(self):
        """Each unit is given some other order first, and the units come and go before the orders are made."""
        chance = random.Random(4)
        same = list(range(60))
        for position in random_positions():
            board = filled(linked(position.size, position.links), [(at, 7) for at in range(position.size)])
            for at in mixed(chance, range(position.size)):
                board.lift(at)
            for at in mixed(chance, position.units):
                board.post(at, position.units[at])
            orders = Orders(board)
            for at in mixed(chance, position.units):
                give(orders, at, chance.choice(legal_orders(position, at)))
            for at in mixed(chance, position.units):
                give(orders, at, position.given.get(at, STAND))
            straight = position.orders()
            self.assertEqual(seen_units(orders, same), seen_units(straight, same), position)
            self.assertEqual(seen_moves(orders, same), seen_moves(straight, same), position)
            self.assertEqual(seen_turn(Turn(orders), [], same), seen_turn(Turn(straight), [], same), position)


class NothingIsLostTest(unittest.TestCase):
    def sides(self, units):
        return sorted(side for at, side in units)

    def test_each_unit_stands_somewhere(self):
        """On the board, aside, or among the lost, which are of those aside alone."""
        chance = random.Random(5)
        for position in random_positions():
            before = sorted(position.units.values())
            turn = Turn(position.orders())
            aside = {at: side for at, side, source in turn.aside()}
            self.assertEqual(sorted(self.sides(turn.board.roll()) + list(aside.values())), before)
            told = some_told(turn, chance)
            board, lost = after(turn, told)
            self.assertEqual(sorted(self.sides(board.roll()) + [aside[at] for at in lost]), before)
            self.assertTrue(set(turn.board.roll()) <= set(board.roll()))

    def test_all_go_that_are_told_places_of_their_own(self):
        for position in random_positions():
            turn = Turn(position.orders())
            taken = {}
            for at, side, source in turn.aside():
                goals = [goal for goal in turn.may_go(at) if goal not in taken.values()]
                if goals:
                    taken[at] = goals[0]
            board, lost = after(turn, list(taken.items()))
            self.assertEqual(lost, [row[0] for row in turn.aside() if row[0] not in taken])
            for at, side, source in turn.aside():
                if at in taken:
                    self.assertEqual(board.side_at(taken[at]), side)

    def test_the_positions_do_push_units_out(self):
        """Else the tests above would tell little."""
        pushed = [len(Turn(position.orders()).aside()) for position in random_positions()]
        self.assertGreater(sum(pushed), 60)
        self.assertGreater(max(pushed), 2)


class HandedInTest(unittest.TestCase):
    def test_asking_changes_nothing(self):
        chance = random.Random(6)
        for position in random_positions():
            orders = position.orders()
            kept = copy.deepcopy(orders)
            same = list(range(position.size))
            turn = Turn(orders)
            told = some_told(turn, chance)
            kept_turn, kept_told = copy.deepcopy(turn), list(told)
            seen_units(orders, same)
            seen_moves(orders, same)
            seen_turn(turn, told, same)
            self.assertEqual(told, kept_told)
            self.assertEqual(seen_units(orders, same), seen_units(kept, same))
            self.assertEqual(orders.board.roll(), kept.board.roll())
            for at in same:
                self.assertEqual(orders.board.chart.near(at), position.near(at))
            self.assertEqual(seen_turn(turn, told, same), seen_turn(kept_turn, told, same))
