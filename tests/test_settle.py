"""Settling: sets of moves that can stand, the strikes round by round, and the moves that are done."""

import itertools
import random

from atonce.settle import can_stand, settled, strikes
from tests.helper import (STAND, Position, RefusalCase, aid, crowd, go, line, random_position, random_positions, ring,
                          star, triangle_positions, whole)

# Of one side, of two by turns, and of eight.
SIDES = (lambda at: 1, lambda at: at % 2, lambda at: at % 8)


class SettleCase(RefusalCase):
    def assert_settled(self, position, struck):
        orders = position.orders()
        self.assert_told(strikes(orders), struck)
        left = sorted(set(position.moves) - {row[1] for row in struck})
        self.assert_told(settled(orders), left)
        self.assertIs(can_stand(orders, left), True)

    def assert_sets(self, position):
        """All sets of moves, in whatever order; the greatest is what those that can stand hold together."""
        orders = position.orders()
        chance = random.Random(0)
        greatest = set()
        for size in range(len(position.moves) + 1):
            for places in itertools.combinations(sorted(position.moves), size):
                mixed = chance.sample(places, size)
                stands = can_stand(orders, mixed)
                self.assertIs(stands, position.can_stand(places), (position, mixed))
                greatest |= set(places) if stands else set()
        self.assertTrue(can_stand(orders, sorted(greatest)), position)
        self.assertEqual(settled(orders), sorted(greatest), position)


class NothingTest(SettleCase):
    def test_no_moves(self):
        self.assert_settled(Position(1, [], {}, {}), [])
        self.assert_settled(Position(60, whole(60), {at: at % 8 for at in range(60)}, {}), [])
        self.assert_settled(crowd([1, 1, 2], {0: aid(1, 1), 1: aid(0, 8), 2: STAND}), [])

    def test_the_empty_set_can_stand(self):
        for given in ({}, {0: go(8)}, {0: go(8), 1: go(8)}, {0: go(1), 1: go(0)}):
            self.assertIs(can_stand(crowd([1, 1], given).orders(), []), True)

    def test_a_move_to_an_empty_place(self):
        self.assert_settled(crowd([1], {0: go(8)}), [])


class FirstTest(SettleCase):
    def test_equal_rivals(self):
        for sides in ([1, 1], [1, 2]):
            position = crowd(sides, {0: go(8), 1: go(8)})
            self.assert_settled(position, [(1, 0, 1), (1, 1, 1)])
            for places in ([0], [1], [0, 1], [1, 0]):
                self.assertIs(can_stand(position.orders(), places), False)

    def test_the_stronger_goes(self):
        position = crowd([1, 1, 2], {0: go(8), 1: aid(0, 8), 2: go(8)})
        self.assert_settled(position, [(1, 2, 1)])
        self.assertIs(can_stand(position.orders(), [2]), False)
        self.assertIs(can_stand(position.orders(), [0]), True)

    def test_two_strong_ones_shut_out_a_third(self):
        given = {0: go(8), 1: aid(0, 8), 2: go(8), 3: aid(2, 8), 4: go(8)}
        self.assert_settled(crowd([1, 1, 2, 2, 3], given), [(1, 0, 1), (1, 2, 1), (1, 4, 1)])

    def test_helps_of_a_rivals_side_count_against_it(self):
        position = crowd([1, 2, 2], {0: go(8), 1: aid(0, 8), 2: go(8)})
        self.assert_settled(position, [(1, 2, 1)])

    def test_a_rival_whose_own_move_is_struck_is_a_rival(self):
        """The unit in 1 can not pass the one of its side that stands in 2, and bars the way all the same."""
        position = crowd([1, 2, 2], {0: go(2), 1: go(2)})
        self.assert_settled(position, [(1, 0, 1), (1, 1, 1)])
        given = {0: go(2), 1: go(2), 3: aid(1, 2), 4: aid(0, 2)}
        self.assert_settled(crowd([1, 2, 2, 2, 1], given), [(1, 0, 1), (1, 1, 1)])
        given = {0: go(2), 1: go(2), 3: aid(1, 2), 4: aid(1, 2), 5: aid(0, 2)}
        self.assert_settled(crowd([1, 2, 2, 2, 2, 1], given), [(1, 0, 1), (1, 1, 3)])

    def test_the_first_goes_ahead_of_the_second_and_the_third(self):
        self.assert_settled(crowd([1, 1, 1], {0: go(1), 1: go(0), 2: go(1)}), [(1, 0, 1), (1, 1, 2), (1, 2, 1)])
        self.assert_settled(crowd([1, 1, 1], {0: go(1), 2: go(1)}), [(1, 0, 1), (1, 2, 1)])

    def test_only_moves_to_that_place_are_rivals(self):
        self.assert_settled(crowd([1, 2], {0: go(8), 1: go(7)}), [])


class SecondTest(SettleCase):
    def test_two_that_face_one_another(self):
        for sides in ([1, 1], [1, 2]):
            position = crowd(sides, {0: go(1), 1: go(0)})
            self.assert_settled(position, [(1, 0, 2), (1, 1, 2)])
            for places in ([0], [1], [0, 1]):
                self.assertIs(can_stand(position.orders(), places), False)

    def test_the_stronger_goes(self):
        position = crowd([1, 2, 1], {0: go(1), 1: go(0), 2: aid(0, 1)})
        self.assert_settled(position, [(1, 1, 2)])
        self.assertIs(can_stand(position.orders(), [0]), True)
        self.assertIs(can_stand(position.orders(), [0, 1]), False)

    def test_equally_strong(self):
        given = {0: go(1), 1: go(0), 2: aid(0, 1), 3: aid(1, 0)}
        self.assert_settled(crowd([1, 2, 1, 2], given), [(1, 0, 2), (1, 1, 2)])

    def test_own_units_do_not_pass_one_another(self):
        self.assert_settled(crowd([1, 1, 1], {0: go(1), 1: go(0), 2: aid(0, 1)}), [(1, 0, 2), (1, 1, 2)])
        self.assert_settled(crowd([1, 1, 2], {0: go(1), 1: go(0), 2: aid(0, 1)}), [(1, 0, 2), (1, 1, 2)])

    def test_helps_of_the_faced_side_are_left_out(self):
        self.assert_settled(crowd([1, 2, 2], {0: go(1), 1: go(0), 2: aid(0, 1)}), [(1, 0, 2), (1, 1, 2)])
        self.assert_settled(crowd([1, 2, 3], {0: go(1), 1: go(0), 2: aid(0, 1)}), [(1, 1, 2)])

    def test_the_faced_one_has_its_whole_force(self):
        """The help in 3 is by the side of the unit in 0, and counts for the one in 1."""
        given = {0: go(1), 1: go(0), 2: aid(0, 1), 3: aid(1, 0)}
        self.assert_settled(crowd([1, 2, 1, 1], given), [(1, 0, 2), (1, 1, 2)])

    def test_helps_to_stand_are_nothing_to_one_that_moves(self):
        given = {0: go(1), 1: go(0), 2: aid(0, 1), 3: aid(1, 1), 4: aid(1, 1)}
        self.assert_settled(crowd([1, 2, 1, 2, 2], given), [(1, 1, 2)])

    def test_it_does_not_ask_whether_the_faced_move_is_of_the_set(self):
        position = crowd([1, 2, 3, 3], {0: go(1), 1: go(0), 2: go(0), 3: aid(2, 0)})
        self.assert_settled(position, [(1, 0, 2), (1, 1, 1)])
        self.assertIs(can_stand(position.orders(), [2]), True)
        self.assertIs(can_stand(position.orders(), [0, 2]), False)


class ThirdTest(SettleCase):
    def test_a_unit_that_stands(self):
        for sides in ([1, 1], [1, 2]):
            for order in (STAND, aid(2, 2), aid(2, 8)):
                self.assert_settled(crowd(sides + [3], {0: go(1), 1: order}), [(1, 0, 3)])

    def test_the_stronger_goes(self):
        for order in (STAND, aid(3, 3), aid(3, 8)):
            self.assert_settled(crowd([1, 2, 1, 2], {0: go(1), 2: aid(0, 1), 1: order}), [])

    def test_firm_ones_hold(self):
        given = {0: go(1), 2: aid(0, 1), 3: aid(1, 1)}
        self.assert_settled(crowd([1, 2, 1, 2], given), [(1, 0, 3)])
        self.assert_settled(crowd([1, 2, 1, 1], given), [(1, 0, 3)])
        self.assert_settled(crowd([1, 2, 1, 2, 1], {**given, 4: aid(0, 1)}), [])

    def test_own_units_are_not_pushed(self):
        self.assert_settled(crowd([1, 1, 1, 1], {0: go(1), 2: aid(0, 1), 3: aid(0, 1)}), [(1, 0, 3)])
        self.assert_settled(crowd([1, 1, 2, 3], {0: go(1), 2: aid(0, 1), 3: aid(0, 1)}), [(1, 0, 3)])

    def test_helps_of_the_pushed_side_are_left_out(self):
        self.assert_settled(crowd([1, 2, 2], {0: go(1), 2: aid(0, 1)}), [(1, 0, 3)])
        self.assert_settled(crowd([1, 2, 2, 3], {0: go(1), 2: aid(0, 1), 3: aid(0, 1)}), [])

    def test_a_place_that_is_left_is_free(self):
        for sides in ([1, 1], [1, 2]):
            position = crowd(sides, {0: go(1), 1: go(8)})
            self.assert_settled(position, [])
            self.assertIs(can_stand(position.orders(), [0]), False)
            self.assertIs(can_stand(position.orders(), [1]), True)
            self.assertIs(can_stand(position.orders(), [1, 0]), True)
            self.assertIs(can_stand(position.orders(), [0, 1]), True)

    def test_one_that_moves_and_stays_has_firmness_one(self):
        given = {0: go(1), 1: go(8), 2: go(8), 3: aid(0, 1), 4: aid(1, 1), 5: aid(1, 1)}
        self.assert_settled(crowd([1, 2, 3, 1, 2, 2], given), [(1, 1, 1), (1, 2, 1)])

    def test_one_of_the_own_side_that_moves_and_stays_is_not_pushed(self):
        given = {0: go(1), 1: go(8), 2: go(8), 3: aid(0, 1)}
        self.assert_settled(crowd([1, 1, 3, 1], given), [(1, 1, 1), (1, 2, 1), (2, 0, 3)])

    def test_a_round_is_held_against_the_moves_as_it_begins(self):
        """The move out of 1 is struck in the first round; the ones behind it fall in the rounds that follow."""
        self.assert_settled(crowd([1, 1, 1, 2], {0: go(1), 1: go(3), 2: go(0)}), [(1, 1, 3), (2, 0, 3), (3, 2, 3)])
        self.assert_settled(crowd([1, 1, 1, 2], {2: go(1), 1: go(3), 0: go(2)}), [(1, 1, 3), (2, 2, 3), (3, 0, 3)])


class ChainTest(SettleCase):
    def chains(self, size):
        """Each moves to the next place, upwards or downwards; the last place holds no move."""
        for side in SIDES:
            yield {at: side(at) for at in range(size - 1)}, {at: go(at + 1) for at in range(size - 1)}, size - 1
            yield {at: side(at) for at in range(1, size)}, {at: go(at - 1) for at in range(1, size)}, 0

    def test_chains_behind_an_empty_place(self):
        for size in (2, 3, 4, 7, 60):
            for units, given, last in self.chains(size):
                self.assert_settled(Position(size, line(size), units, given), [])

    def test_chains_behind_a_unit_that_stands(self):
        for size in (2, 3, 4, 7, 60):
            for units, given, last in self.chains(size):
                struck = [(count, abs(last - count), 3) for count in range(1, size)]
                self.assert_settled(Position(size, line(size), {**units, last: 5}, given), struck)

    def test_each_end_of_a_chain_that_can_stand(self):
        for units, given, last in self.chains(7):
            orders = Position(7, line(7), units, given).orders()
            for count in range(7):
                front = [abs(last - step) for step in range(1, count + 1)]
                self.assertIs(can_stand(orders, front), True)
                if 0 < count < 6:
                    self.assertIs(can_stand(orders, [at for at in given if at not in front]), False)

    def test_a_strong_one_in_a_chain_ends_the_strikes(self):
        """Places 0 to 57 move up to 58, which stands; the helper in 59 makes the move out of 30 strong."""
        units = {at: at % 2 for at in range(60)}
        given = {**{at: go(at + 1) for at in range(58)}, 59: aid(30, 31)}
        position = Position(60, line(60) + [(59, 31)], {**units, 59: 0}, given)
        self.assert_settled(position, [(count, 58 - count, 3) for count in range(1, 28)])

    def test_two_chains_with_one_goal(self):
        position = Position(60, line(60), {at: at % 3 for at in range(60) if at != 30},
                            {at: go(at + 1 if at < 30 else at - 1) for at in range(60) if at != 30})
        struck = [(count, at, 1 if count == 1 else 3)
                  for count in range(1, 31) for at in (30 - count, 30 + count) if at < 60]
        self.assert_settled(position, struck)


class RingTest(SettleCase):
    def rings(self, size):
        for side in SIDES:
            units = {at: side(at) for at in range(size)}
            yield units, {at: go((at + 1) % size) for at in range(size)}
            yield units, {at: go((at - 1) % size) for at in range(size)}

    def test_rings_go_round(self):
        for size in (3, 4, 5, 8, 60):
            for units, given in self.rings(size):
                position = Position(size, ring(size), units, given)
                self.assert_settled(position, [])
                some = [at for at in given if at != size // 2]
                self.assertIs(can_stand(position.orders(), some), False)

    def test_two_places_are_no_ring(self):
        for units, given in self.rings(2):
            self.assert_settled(Position(2, line(2), units, given), [(1, 0, 2), (1, 1, 2)])

    def test_a_rival_from_without_stops_a_ring(self):
        for size in (3, 4, 8, 59):
            units = {**{at: 1 for at in range(size)}, size: 2}
            given = {**{at: go((at + 1) % size) for at in range(size)}, size: go(0)}
            struck = [(1, size - 1, 1), (1, size, 1)] + [(count, size - count, 3) for count in range(2, size + 1)]
            self.assert_settled(Position(size + 1, ring(size) + [(size, 0)], units, given), struck)

    def test_rings_beside_one_another(self):
        """A ring that goes round, one that is stopped, and two that face one another."""
        links = [(0, 1), (1, 2), (2, 0), (3, 4), (4, 5), (5, 3), (6, 3), (7, 8)]
        given = {0: go(1), 1: go(2), 2: go(0), 3: go(4), 4: go(5), 5: go(3), 6: go(3), 7: go(8), 8: go(7)}
        position = Position(9, links, {at: at % 3 for at in range(9)}, given)
        self.assert_settled(position, [(1, 5, 1), (1, 6, 1), (1, 7, 2), (1, 8, 2), (2, 4, 3), (3, 3, 3)])


class ManyHelpersTest(SettleCase):
    def contest(self, forward, firm):
        """In a star of 60 places 0 moves on 59 with some helpers; others help 59 to stand."""
        units = {at: side for at, side in enumerate([1] + forward + firm)}
        units[59] = 2
        given = {0: go(59)}
        for at in range(1, len(forward) + 1):
            given[at] = aid(0, 59)
        for at in range(len(forward) + 1, len(forward + firm) + 1):
            given[at] = aid(59, 59)
        return Position(60, star(60), units, given)

    def test_helpers_of_several_sides(self):
        self.assert_settled(self.contest([1] * 30, [2] * 28), [])
        self.assert_settled(self.contest([1] * 29, [2] * 29), [(1, 0, 3)])
        self.assert_settled(self.contest([3, 4, 5, 6, 7, 0] * 5, [1] * 28), [])
        self.assert_settled(self.contest([2] * 58, []), [(1, 0, 3)])
        self.assert_settled(self.contest([2] * 50 + [3] * 4, [0] * 4), [(1, 0, 3)])
        self.assert_settled(self.contest([2] * 50 + [3] * 4, [0] * 3), [])

    def test_all_move_to_one_place(self):
        for middle in ({}, {59: 3}):
            position = Position(60, star(60), {**{at: at % 8 for at in range(59)}, **middle},
                                {at: go(59) for at in range(59)})
            self.assert_settled(position, [(1, at, 1) for at in range(59)])


class HandedInTest(SettleCase):
    def test_the_list_stays_as_it_was(self):
        orders = crowd([1, 1, 1, 2], {0: go(1), 1: go(8), 3: go(2)}).orders()
        for places in ([1, 0], [0, 1], [3, 0, 1], [0], [3], []):
            kept = list(places)
            can_stand(orders, places)
            self.assertEqual(places, kept)

    def test_the_orders_stay_as_they_were(self):
        given = {0: go(1), 1: go(3), 2: aid(0, 1)}
        orders = crowd([1, 1, 1, 2], given).orders()
        for call in (strikes, settled, lambda orders: can_stand(orders, [0, 1])):
            call(orders)
            self.assertEqual({at: orders.told(at) for at in range(3)}, given)
            self.assertEqual(orders.board.roll(), [(0, 1), (1, 1), (2, 1), (3, 2)])

    def test_what_is_told_is_the_callers_own(self):
        orders = crowd([1, 1, 1, 2], {0: go(1), 1: go(3), 2: go(8)}).orders()
        for call in (strikes, settled):
            told = call(orders)
            kept = list(told)
            told.reverse()
            told.append(9)
            self.assertIsNot(call(orders), told)
            self.assertEqual(call(orders), kept)

    def test_newer_orders_count(self):
        orders = crowd([1, 1], {0: go(8), 1: go(8)}).orders()
        self.assertEqual(settled(orders), [])
        orders.stand(1)
        self.assertEqual(settled(orders), [0])
        self.assertEqual(strikes(orders), [])

    def test_arguments_by_name(self):
        orders = crowd([1], {0: go(8)}).orders()
        self.assertIs(can_stand(orders=orders, places=[0]), True)
        self.assertEqual(strikes(orders=orders), [])
        self.assertEqual(settled(orders=orders), [0])


class AgainstTheModelTest(SettleCase):
    def test_all_positions_on_a_triangle(self):
        for position in triangle_positions():
            self.assert_settled(position, position.strikes())
            self.assert_sets(position)

    def test_many_positions(self):
        for position in random_positions():
            self.assert_settled(position, position.strikes())

    def test_all_sets_in_many_positions(self):
        for seed in range(150):
            position = random_position(5000 + seed, 4 + seed % 6, 3 + seed % 4, 2 + seed % 2)
            if len(position.moves) < 8:
                self.assert_sets(position)
