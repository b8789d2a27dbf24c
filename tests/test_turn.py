"""A turn: what is done, who stands aside and where it may go, what is shut, and what becomes of the board."""

import itertools
import random

from atonce.board import Board
from atonce.errors import NoPlace, NoUnit
from atonce.orders import Orders
from atonce.turn import Turn, after
from tests.helper import (STAND, Position, RefusalCase, aid, crowd, give, go, line, no_places, random_positions, ring,
                          triangle_positions, whole)

# The unit in 0 pushes out the one in 1, which stands; 3 and 4 bar one another's way to 8; 5 goes to 6.
SCENE = crowd([1, 2, 1, 3, 4, 5], {0: go(1), 2: aid(0, 1), 3: go(8), 4: go(8), 5: go(6)})

# Three are pushed out: from 3 by 0, from 4 by 1 and from 5 by 2, with a helper each; 9, 10 and 11 are empty.
PUSHED = Position(12, whole(12), {0: 1, 1: 1, 2: 1, 3: 2, 4: 3, 5: 2, 6: 1, 7: 1, 8: 1},
                  {0: go(3), 1: go(4), 2: go(5), 6: aid(0, 3), 7: aid(1, 4), 8: aid(2, 5)})


class TurnCase(RefusalCase):
    def assert_turn(self, turn, done, aside, shut, units):
        self.assert_told(turn.done(), done)
        self.assert_told(turn.aside(), aside)
        self.assert_told(turn.shut(), shut)
        self.assertIs(type(turn.board), Board)
        self.assert_told(turn.board.roll(), sorted(units.items()))

    def assert_after(self, turn, told, units, lost):
        found = after(turn, told)
        self.assertIs(type(found), tuple)
        self.assertEqual(len(found), 2)
        self.assertIs(type(found[0]), Board)
        self.assertIs(found[0].chart, turn.board.chart)
        self.assertIsNot(found[0], turn.board)
        self.assert_told(found[0].roll(), sorted(units.items()))
        self.assert_told(found[1], lost)


class OutcomeTest(TurnCase):
    def test_nothing_ordered(self):
        for units in ({}, {0: 0}, {0: 1, 1: 1, 2: 7}):
            turn = Turn(Position(3, whole(3), units, {}).orders())
            self.assert_turn(turn, [], [], [], units)

    def test_a_scene(self):
        turn = Turn(SCENE.orders())
        self.assert_turn(turn, [(0, 1), (5, 6)], [(1, 2, 0)], [8], {1: 1, 2: 1, 3: 3, 4: 4, 6: 5})
        self.assert_told(turn.may_go(1), [5, 7])

    def test_a_move_to_an_empty_place(self):
        turn = Turn(Position(2, line(2), {1: 0}, {1: go(0)}).orders())
        self.assert_turn(turn, [(1, 0)], [], [], {0: 0})

    def test_a_move_that_fails_shuts_its_goal(self):
        """Where a unit stands there too."""
        turn = Turn(Position(3, line(3), {0: 0, 1: 1}, {0: go(1)}).orders())
        self.assert_turn(turn, [], [], [1], {0: 0, 1: 1})
        turn = Turn(Position(2, line(2), {0: 0, 1: 1}, {0: go(1), 1: go(0)}).orders())
        self.assert_turn(turn, [], [], [0, 1], {0: 0, 1: 1})

    def test_a_goal_is_shut_once(self):
        turn = Turn(crowd([1] * 7, {at: go(8) for at in range(7)}).orders())
        self.assert_turn(turn, [], [], [8], {at: 1 for at in range(7)})

    def test_a_goal_that_was_reached_is_not_shut(self):
        turn = Turn(crowd([1, 1, 2], {0: go(8), 1: aid(0, 8), 2: go(8)}).orders())
        self.assert_turn(turn, [(0, 8)], [], [], {1: 1, 2: 2, 8: 1})

    def test_a_helps_goal_is_not_shut(self):
        turn = Turn(crowd([1, 1], {0: aid(1, 8)}).orders())
        self.assert_turn(turn, [], [], [], {0: 1, 1: 1})

    def test_one_that_was_ordered_to_move_is_pushed_out(self):
        given = {0: go(1), 1: go(8), 2: go(8), 3: aid(0, 1)}
        turn = Turn(crowd([1, 2, 3, 1], given).orders())
        self.assert_turn(turn, [(0, 1)], [(1, 2, 0)], [8], {1: 1, 2: 3, 3: 1})
        self.assert_told(turn.may_go(1), [4, 5, 6, 7])

    def test_one_that_was_ordered_to_help_is_pushed_out(self):
        given = {0: go(1), 1: aid(2, 8), 2: go(8), 3: aid(0, 1)}
        turn = Turn(crowd([1, 2, 2, 1], given).orders())
        self.assert_turn(turn, [(0, 1), (2, 8)], [(1, 2, 0)], [], {1: 1, 3: 1, 8: 2})

    def test_one_that_faces_a_stronger_one_is_pushed_out_from_there(self):
        turn = Turn(crowd([1, 2, 1], {0: go(1), 1: go(0), 2: aid(0, 1)}).orders())
        self.assert_turn(turn, [(0, 1)], [(1, 2, 0)], [0], {1: 1, 2: 1})
        self.assert_told(turn.may_go(1), [3, 4, 5, 6, 7, 8])

    def test_one_that_is_left_in_time_is_not_pushed_out(self):
        given = {0: go(1), 1: go(8), 2: aid(0, 1)}
        turn = Turn(crowd([1, 2, 1], given).orders())
        self.assert_turn(turn, [(0, 1), (1, 8)], [], [], {1: 1, 2: 1, 8: 2})

    def test_chains_and_rings_move_at_once(self):
        for size in (3, 7, 60):
            units = {at: at % 8 for at in range(size)}
            turn = Turn(Position(size, ring(size), units, {at: go((at + 1) % size) for at in range(size)}).orders())
            moved = [(at, (at + 1) % size) for at in range(size)]
            self.assert_turn(turn, moved, [], [], {b: units[a] for a, b in moved})
            units = {at: at % 8 for at in range(1, size)}
            turn = Turn(Position(size, line(size), units, {at: go(at - 1) for at in range(1, size)}).orders())
            self.assert_turn(turn, [(at, at - 1) for at in range(1, size)], [], [],
                             {at - 1: units[at] for at in range(1, size)})

    def test_done_rises_by_where_the_moves_came_from(self):
        turn = Turn(Position(6, [(0, 5), (1, 3), (4, 2)], {4: 1, 0: 2, 1: 0}, {4: go(2), 1: go(3), 0: go(5)}).orders())
        self.assert_turn(turn, [(0, 5), (1, 3), (4, 2)], [], [], {2: 1, 3: 0, 5: 2})

    def test_a_pushed_one_that_pushes_nobody(self):
        """The unit in 1 is too weak to push out the one in 2, and is pushed out itself."""
        turn = Turn(crowd([1, 2, 3, 1], {0: go(1), 1: go(2), 3: aid(0, 1)}).orders())
        self.assert_turn(turn, [(0, 1)], [(1, 2, 0)], [2], {1: 1, 2: 3, 3: 1})

    def test_several_aside(self):
        turn = Turn(PUSHED.orders())
        self.assert_turn(turn, [(0, 3), (1, 4), (2, 5)], [(3, 2, 0), (4, 3, 1), (5, 2, 2)], [],
                         {3: 1, 4: 1, 5: 1, 6: 1, 7: 1, 8: 1})

    def test_side_nought_may_push_and_be_pushed(self):
        turn = Turn(crowd([0, 1, 0], {0: go(1), 2: aid(0, 1)}).orders())
        self.assert_turn(turn, [(0, 1)], [(1, 1, 0)], [], {1: 0, 2: 0})
        turn = Turn(crowd([1, 0, 1], {0: go(1), 2: aid(0, 1)}).orders())
        self.assert_turn(turn, [(0, 1)], [(1, 0, 0)], [], {1: 1, 2: 1})
        self.assert_after(turn, [(1, 8)], {1: 1, 2: 1, 8: 0}, [])


class KeptTest(TurnCase):
    def test_the_board_of_the_orders_stays(self):
        orders = SCENE.orders()
        board = orders.board
        turn = Turn(orders)
        self.assertIs(orders.board, board)
        self.assertIsNot(turn.board, board)
        self.assertIs(turn.board.chart, board.chart)
        self.assertEqual(board.roll(), sorted(SCENE.units.items()))
        self.assertEqual({at: orders.told(at) for at in range(6)}, {**{at: STAND for at in range(6)}, **SCENE.given})

    def test_a_quiet_turn_has_a_board_of_its_own(self):
        orders = crowd([1, 2], {}).orders()
        self.assertIsNot(Turn(orders).board, orders.board)
        self.assertIsNot(Turn(orders).board, Turn(orders).board)

    def test_later_orders_and_units_change_nothing(self):
        orders = SCENE.orders()
        turn = Turn(orders)
        for at in range(6):
            orders.stand(at)
        orders.move(2, 7)
        for at in range(6):
            orders.board.lift(at)
        orders.board.post(7, 7)
        self.assert_turn(turn, [(0, 1), (5, 6)], [(1, 2, 0)], [8], {1: 1, 2: 1, 3: 3, 4: 4, 6: 5})
        self.assert_told(turn.may_go(1), [5, 7])
        self.assert_after(turn, [(1, 5)], {1: 1, 2: 1, 3: 3, 4: 4, 5: 2, 6: 5}, [])

    def test_what_is_done_to_a_list_changes_nothing(self):
        turn = Turn(SCENE.orders())
        for call in (turn.done, turn.aside, turn.shut, lambda: turn.may_go(1), turn.board.roll):
            told = call()
            kept = list(told)
            told.reverse()
            told.append((7, 7))
            self.assertIsNot(call(), told)
            self.assertEqual(call(), kept)
            call().clear()
            self.assertEqual(call(), kept)
        self.assert_turn(turn, [(0, 1), (5, 6)], [(1, 2, 0)], [8], {1: 1, 2: 1, 3: 3, 4: 4, 6: 5})

    def test_two_turns_of_the_same_orders(self):
        orders = SCENE.orders()
        one = Turn(orders)
        orders.move(3, 7)
        other = Turn(orders)
        self.assert_turn(one, [(0, 1), (5, 6)], [(1, 2, 0)], [8], {1: 1, 2: 1, 3: 3, 4: 4, 6: 5})
        self.assert_turn(other, [(0, 1), (3, 7), (4, 8), (5, 6)], [(1, 2, 0)], [], {1: 1, 2: 1, 6: 5, 7: 3, 8: 4})
        self.assertEqual(one.may_go(1), [5, 7])
        self.assertEqual(other.may_go(1), [3, 4, 5])

    def test_a_second_turn_on_a_turns_board(self):
        first = Turn(SCENE.orders())
        orders = Orders(first.board)
        self.assertEqual([orders.told(at) for at in (1, 2, 3, 4, 6)], [STAND] * 5)
        for at, order in ((1, go(0)), (3, go(8)), (4, aid(3, 8)), (6, go(8))):
            give(orders, at, order)
        second = Turn(orders)
        self.assert_turn(second, [(1, 0), (3, 8)], [], [], {0: 1, 2: 1, 4: 4, 6: 5, 8: 3})
        self.assert_turn(first, [(0, 1), (5, 6)], [(1, 2, 0)], [8], {1: 1, 2: 1, 3: 3, 4: 4, 6: 5})
        self.assertIs(second.board.chart, first.board.chart)

    def test_a_second_turn_on_the_board_behind(self):
        first = Turn(SCENE.orders())
        board = after(first, [(1, 7)])[0]
        orders = Orders(board)
        orders.move(7, 0)
        self.assert_turn(Turn(orders), [(7, 0)], [], [], {0: 2, 1: 1, 2: 1, 3: 3, 4: 4, 6: 5})
        self.assertEqual(board.roll(), [(1, 1), (2, 1), (3, 3), (4, 4), (6, 5), (7, 2)])

    def test_arguments_by_name(self):
        turn = Turn(orders=SCENE.orders())
        self.assertEqual(turn.may_go(at=1), [5, 7])
        self.assertEqual(after(turn=turn, told=[(1, 5)])[1], [])


class MayGoTest(TurnCase):
    def pushed(self, more, given):
        """On a line 0 to 7 with 2 linked to 4, 5 and 6, the unit in 1 pushes out the one in 2."""
        links = line(8) + [(2, 4), (2, 5), (2, 6), (0, 2)]
        return Turn(Position(8, links, {0: 1, 1: 1, 2: 2, **more}, {1: go(2), 0: aid(1, 2), **given}).orders())

    def test_neighbours_alone(self):
        turn = self.pushed({}, {})
        self.assert_told(turn.may_go(2), [3, 4, 5, 6])

    def test_no_place_where_a_unit_stands_now(self):
        self.assert_told(self.pushed({3: 2, 5: 1}, {}).may_go(2), [4, 6])

    def test_a_place_that_was_left_is_free_and_one_that_was_reached_is_not(self):
        self.assert_told(self.pushed({3: 2}, {3: go(4)}).may_go(2), [3, 5, 6])

    def test_no_shut_place(self):
        turn = self.pushed({3: 1, 5: 3}, {3: go(4), 5: go(4)})
        self.assertEqual(turn.shut(), [4])
        self.assert_told(turn.may_go(2), [6])

    def test_not_the_place_it_was_pushed_out_from(self):
        turn = self.pushed({}, {})
        self.assertIsNone(turn.board.side_at(1))
        self.assertNotIn(1, turn.may_go(2))
        # Another one's place that was left is free, though a move came from there too.
        turn = self.pushed({3: 1}, {3: go(4)})
        self.assertIn(3, turn.may_go(2))

    def test_nowhere_to_go(self):
        turn = self.pushed({3: 1, 4: 1, 5: 1, 6: 1}, {})
        self.assert_told(turn.may_go(2), [])
        self.assert_after(turn, [(2, 1)], {0: 1, 2: 1, 3: 1, 4: 1, 5: 1, 6: 1}, [2])

    def test_places_made_neighbours_later_count(self):
        turn = self.pushed({}, {})
        turn.board.chart.link(7, 2)
        self.assert_told(turn.may_go(2), [3, 4, 5, 6, 7])

    def test_refused(self):
        for size, turn in ((9, Turn(SCENE.orders())), (8, self.pushed({}, {}))):
            for at in no_places(size):
                self.assert_refused(NoPlace, turn.may_go, at)
            under = [row[0] for row in turn.aside()]
            for at in range(size):
                if at not in under:
                    self.assert_refused(NoUnit, turn.may_go, at)
        quiet = Turn(Position(1, [], {0: 0}, {}).orders())
        self.assert_refused(NoUnit, quiet.may_go, 0)
        self.assert_refused(NoPlace, quiet.may_go, 1)


class AfterTest(TurnCase):
    stayed = {3: 1, 4: 1, 5: 1, 6: 1, 7: 1, 8: 1}

    def test_all_go(self):
        turn = Turn(PUSHED.orders())
        for at in (3, 4, 5):
            self.assertEqual(turn.may_go(at), [goal for goal in (0, 1, 2, 9, 10, 11) if goal != at - 3])
        self.assert_after(turn, [(3, 9), (4, 10), (5, 11)], {**self.stayed, 9: 2, 10: 3, 11: 2}, [])
        self.assert_after(turn, [(5, 9), (3, 10), (4, 11)], {**self.stayed, 9: 2, 10: 2, 11: 3}, [])

    def test_one_may_go_where_another_was_pushed_out_from(self):
        turn = Turn(PUSHED.orders())
        self.assert_after(turn, [(3, 1), (4, 2), (5, 0)], {**self.stayed, 0: 2, 1: 2, 2: 3}, [])

    def test_those_that_are_told_nothing_are_lost(self):
        turn = Turn(PUSHED.orders())
        self.assert_after(turn, [], self.stayed, [3, 4, 5])
        self.assert_after(turn, [(4, 9)], {**self.stayed, 9: 3}, [3, 5])

    def test_two_that_are_told_one_place_are_lost(self):
        turn = Turn(PUSHED.orders())
        self.assert_after(turn, [(5, 9), (3, 9)], self.stayed, [3, 4, 5])
        self.assert_after(turn, [(5, 9), (4, 10), (3, 9)], {**self.stayed, 10: 3}, [3, 5])
        self.assert_after(turn, [(5, 9), (4, 9), (3, 9)], self.stayed, [3, 4, 5])

    def test_a_place_that_one_may_not_go_to_counts_against_the_others(self):
        turn = Turn(PUSHED.orders())
        self.assert_after(turn, [(3, 0), (4, 0)], self.stayed, [3, 4, 5])
        self.assert_after(turn, [(4, 0), (3, 0), (5, 9)], {**self.stayed, 9: 2}, [3, 4])

    def test_a_place_that_is_no_neighbour_counts_against_the_others(self):
        links = [(0, 1), (2, 1), (3, 4), (5, 4), (1, 6)]
        units = {0: 1, 1: 2, 2: 1, 3: 1, 4: 2, 5: 1}
        position = Position(7, links, units, {0: go(1), 2: aid(0, 1), 3: go(4), 5: aid(3, 4)})
        turn = Turn(position.orders())
        self.assertEqual(turn.aside(), [(1, 2, 0), (4, 2, 3)])
        self.assertEqual([turn.may_go(1), turn.may_go(4)], [[6], []])
        stayed = {1: 1, 2: 1, 4: 1, 5: 1}
        self.assert_after(turn, [(1, 6), (4, 6)], stayed, [1, 4])
        self.assert_after(turn, [(1, 6), (4, 4)], {**stayed, 6: 2}, [4])
        self.assert_after(turn, [(1, 6)], {**stayed, 6: 2}, [4])

    def test_places_that_one_may_not_go_to(self):
        turn = Turn(SCENE.orders())
        stayed = {1: 1, 2: 1, 3: 3, 4: 4, 6: 5}
        for goal in range(9):
            if goal in (5, 7):
                self.assert_after(turn, [(1, goal)], {**stayed, goal: 2}, [])
            else:
                self.assert_after(turn, [(1, goal)], stayed, [1])

    def test_a_quiet_turn(self):
        turn = Turn(crowd([1, 2], {}).orders())
        self.assert_after(turn, [], {0: 1, 1: 2}, [])

    def test_the_turn_and_the_list_stay_as_they_were(self):
        turn = Turn(PUSHED.orders())
        told = [(5, 9), (4, 9), (3, 10)]
        board, lost = after(turn, told)
        board.lift(10)
        board.post(0, 7)
        lost.append(9)
        self.assertEqual(told, [(5, 9), (4, 9), (3, 10)])
        self.assert_turn(turn, [(0, 3), (1, 4), (2, 5)], [(3, 2, 0), (4, 3, 1), (5, 2, 2)], [], self.stayed)
        self.assertEqual(turn.may_go(3), [1, 2, 9, 10, 11])
        self.assert_after(turn, told, {**self.stayed, 10: 2}, [4, 5])
        self.assertIsNot(after(turn, told)[0], after(turn, told)[0])

    def test_no_place(self):
        turn = Turn(PUSHED.orders())
        for wrong in no_places(12):
            self.assert_refused(NoPlace, after, turn, [(wrong, 9)])
            self.assert_refused(NoPlace, after, turn, [(3, wrong)])
            self.assert_refused(NoPlace, after, turn, [(wrong, wrong)])
            self.assert_refused(NoPlace, after, turn, [(3, 9), (4, wrong)])
            self.assert_refused(NoPlace, after, turn, [(3, 9), (wrong, 10), (5, 11)])

    def test_no_unit(self):
        turn = Turn(PUSHED.orders())
        for at in (0, 1, 2, 6, 7, 8, 9, 10, 11):
            self.assert_refused(NoUnit, after, turn, [(at, 9)])
            self.assert_refused(NoUnit, after, turn, [(3, 9), (at, 10)])
            self.assert_refused(NoUnit, after, turn, [(at, 9), (3, 10)])
            # Told a place twice over, or one that nobody may go to.
            self.assert_refused(NoUnit, after, turn, [(at, 9), (3, 9)])
            self.assert_refused(NoUnit, after, turn, [(3, 9), (4, 9), (at, 9)])
            self.assert_refused(NoUnit, after, turn, [(at, 6)])
        quiet = Turn(crowd([1, 2], {}).orders())
        for at in range(9):
            self.assert_refused(NoUnit, after, quiet, [(at, 8)])

    def test_no_place_goes_ahead_of_no_unit(self):
        turn = Turn(PUSHED.orders())
        for wrong in no_places(12):
            self.assert_refused(NoPlace, after, turn, [(0, wrong)])
            self.assert_refused(NoPlace, after, turn, [(0, 9), (wrong, 9)])
            self.assert_refused(NoPlace, after, turn, [(0, 9), (3, wrong)])
        self.assert_turn(turn, [(0, 3), (1, 4), (2, 5)], [(3, 2, 0), (4, 3, 1), (5, 2, 2)], [], self.stayed)

    def test_a_refused_call_changes_nothing(self):
        turn = Turn(PUSHED.orders())
        told = [(3, 9), (4, 10), (0, 11)]
        self.assert_refused(NoUnit, after, turn, told)
        self.assertEqual(told, [(3, 9), (4, 10), (0, 11)])
        self.assert_turn(turn, [(0, 3), (1, 4), (2, 5)], [(3, 2, 0), (4, 3, 1), (5, 2, 2)], [], self.stayed)
        self.assert_after(turn, [(3, 9), (4, 10)], {**self.stayed, 9: 2, 10: 3}, [5])


class SixtyTest(TurnCase):
    def test_twenty_are_pushed_out_of_a_full_board(self):
        """Rows of three: the first moves on the second with the third's help. Nowhere is a place to go but back."""
        units = {at: (1, 2, 1)[at % 3] for at in range(60)}
        given = {}
        for at in range(0, 60, 3):
            given[at] = go(at + 1)
            given[at + 2] = aid(at, at + 1)
        turn = Turn(Position(60, ring(60), units, given).orders())
        left = {at: 1 for at in range(60) if at % 3}
        self.assert_turn(turn, [(at, at + 1) for at in range(0, 60, 3)],
                         [(at, 2, at - 1) for at in range(1, 60, 3)], [], left)
        for at in range(1, 60, 3):
            self.assert_told(turn.may_go(at), [])
        self.assert_after(turn, [(at, at - 1) for at in range(1, 60, 3)], left, list(range(1, 60, 3)))
        for at in range(1, 60, 3):
            turn.board.chart.link(at, (at + 2) % 60)
        self.assert_told(turn.may_go(58), [0])
        self.assert_after(turn, [(at, (at + 2) % 60) for at in range(1, 60, 3)],
                          {**left, **{at: 2 for at in range(0, 60, 3)}}, [])


class AgainstTheModelTest(TurnCase):
    def assert_as_modelled(self, position, chance):
        turn = Turn(position.orders())
        done, aside, shut, units = position.outcome()
        self.assert_turn(turn, done, aside, shut, units)
        free = position.may_go()
        for at in free:
            self.assert_told(turn.may_go(at), free[at])
        told = [(at, chance.choice(free[at] * 3 + position.near(at))) for at in free if chance.random() < 0.9]
        chance.shuffle(told)
        roll, lost = position.after(told)
        self.assert_after(turn, told, dict(roll), lost)
        self.assertEqual(len(roll) + len(lost), len(position.units))

    def test_all_positions_on_a_triangle(self):
        chance = random.Random(0)
        for position in triangle_positions():
            self.assert_as_modelled(position, chance)

    def test_many_positions(self):
        chance = random.Random(1)
        for position in random_positions():
            self.assert_as_modelled(position, chance)

    def test_all_that_three_aside_can_be_told(self):
        turn = Turn(PUSHED.orders())
        for goals in itertools.product((None, 0, 1, 6, 9, 10), repeat=3):
            told = [(at, goal) for at, goal in zip((3, 4, 5), goals) if goal is not None]
            roll, lost = PUSHED.after(told)
            self.assert_after(turn, told, dict(roll), lost)
