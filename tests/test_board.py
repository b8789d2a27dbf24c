"""The board: its units, its roll, its refusals and its chart."""

from atonce.board import Board
from atonce.errors import Crowded, NoPlace, NoSide, NoUnit
from atonce.maps import Map
from tests.helper import RefusalCase, no_places, posted

SIZES = (1, 2, 5, 60)
NO_SIDES = (-1, -2, -8, 8, 9, 60, 10 ** 12)


class BoardCase(RefusalCase):
    def assert_units(self, board, units):
        self.assertEqual([board.side_at(at) for at in range(board.chart.size)],
                         [units.get(at) for at in range(board.chart.size)])
        roll = board.roll()
        self.assertIs(type(roll), list)
        for pair in roll:
            self.assertIs(type(pair), tuple)
        self.assertEqual(roll, [(at, units[at]) for at in sorted(units)])


class UnitsTest(BoardCase):
    def test_at_first_there_are_none(self):
        for size in SIZES:
            self.assert_units(Board(Map(size)), {})

    def test_each_side_in_each_place(self):
        for size in SIZES:
            for at in range(size):
                for side in range(8):
                    self.assert_units(posted(size, [(at, side)]), {at: side})

    def test_side_nought_is_a_side(self):
        board = posted(2, [(1, 0)])
        self.assertEqual(board.side_at(1), 0)
        self.assertIsNotNone(board.side_at(1))
        self.assertIsNone(board.side_at(0))
        self.assert_refused(Crowded, board.post, 1, 0)
        board.lift(1)
        self.assertIsNone(board.side_at(1))

    def test_full_boards(self):
        for size in SIZES:
            units = {at: at * 3 % 8 for at in range(size)}
            self.assert_units(posted(size, reversed(units.items())), units)

    def test_lift_takes_one_unit(self):
        board = posted(5, [(4, 7), (0, 0), (2, 7)])
        board.lift(4)
        self.assert_units(board, {0: 0, 2: 7})
        board.lift(0)
        self.assert_units(board, {2: 7})
        board.lift(2)
        self.assert_units(board, {})

    def test_a_place_is_free_behind_a_lift(self):
        board = posted(1, [(0, 3)])
        for side in (5, 0, 7):
            board.lift(0)
            board.post(0, side)
            self.assert_units(board, {0: side})

    def test_units_of_one_side_and_of_neighbours_stand_side_by_side(self):
        chart = Map(3)
        chart.link(0, 1)
        board = Board(chart)
        board.post(0, 2)
        board.post(1, 2)
        board.post(2, 6)
        self.assert_units(board, {0: 2, 1: 2, 2: 6})

    def test_a_map_somewhat_beyond_is_not_refused(self):
        board = posted(70, [(69, 1), (60, 0)])
        self.assert_units(board, {60: 0, 69: 1})
        self.assert_refused(NoPlace, board.side_at, 70)

    def test_arguments_by_name(self):
        board = Board(chart=Map(2))
        board.post(at=1, side=4)
        self.assertEqual(board.side_at(at=1), 4)
        board.lift(at=1)
        self.assert_units(board, {})


class RollTest(BoardCase):
    def test_rising_whatever_the_order(self):
        units = {2: 7, 9: 0, 10: 3, 11: 0, 30: 5}
        for order in ((2, 9, 10, 11, 30), (30, 11, 10, 9, 2), (10, 2, 30, 9, 11)):
            with self.subTest(order=order):
                self.assert_units(posted(60, [(at, units[at]) for at in order]), units)

    def test_rising_behind_posts_and_lifts_and_refused_calls(self):
        board = posted(6, [(5, 0), (1, 7), (3, 3)])
        board.lift(1)
        board.post(4, 2)
        self.assert_refused(Crowded, board.post, 3, 1)
        board.post(1, 6)
        self.assert_refused(NoUnit, board.lift, 0)
        self.assert_refused(NoSide, board.post, 0, 8)
        self.assert_refused(NoPlace, board.lift, -1)
        board.lift(3)
        board.post(0, 1)
        self.assert_units(board, {0: 1, 1: 6, 4: 2, 5: 0})

    def test_a_roll_is_the_callers_own(self):
        for units in ({}, {0: 1, 3: 0}):
            board = posted(4, units.items())
            roll = board.roll()
            self.assertIsNot(board.roll(), roll)
            roll.append((1, 1))
            roll.reverse()
            self.assert_units(board, units)
            board.roll().clear()
            self.assert_units(board, units)

    def test_a_roll_stays_as_it_was_given(self):
        board = posted(3, [(1, 1)])
        roll = board.roll()
        board.post(0, 5)
        board.lift(1)
        self.assertEqual(roll, [(1, 1)])
        self.assertEqual(board.roll(), [(0, 5)])


class RefusedTest(BoardCase):
    def boards(self):
        for size in SIZES:
            for units in ({}, {size - 1: 0}, {at: at % 8 for at in range(size)}):
                yield posted(size, units.items()), units

    def test_no_place(self):
        for board, units in self.boards():
            for at in no_places(board.chart.size):
                self.assert_refused(NoPlace, board.side_at, at)
                self.assert_refused(NoPlace, board.lift, at)
                for side in (0, 7) + NO_SIDES:
                    self.assert_refused(NoPlace, board.post, at, side)
            self.assert_units(board, units)

    def test_no_side(self):
        for board, units in self.boards():
            for at in range(board.chart.size):
                for side in NO_SIDES:
                    self.assert_refused(NoSide, board.post, at, side)
            self.assert_units(board, units)

    def test_crowded(self):
        for board, units in self.boards():
            for at in units:
                for side in range(8):
                    self.assert_refused(Crowded, board.post, at, side)
            self.assert_units(board, units)

    def test_no_unit(self):
        for board, units in self.boards():
            for at in range(board.chart.size):
                if at not in units:
                    self.assert_refused(NoUnit, board.lift, at)
            self.assert_units(board, units)

    def test_no_unit_behind_a_lift(self):
        board = posted(2, [(0, 0), (1, 1)])
        board.lift(0)
        self.assert_refused(NoUnit, board.lift, 0)
        self.assert_units(board, {1: 1})

    def test_places_are_those_of_the_own_map(self):
        small = posted(2, [(1, 0)])
        large = posted(4, [(3, 0)])
        self.assert_refused(NoPlace, small.side_at, 3)
        self.assertEqual(large.side_at(3), 0)


class ChartTest(BoardCase):
    def test_the_very_map_is_kept(self):
        chart = Map(4)
        board = Board(chart)
        self.assertIs(board.chart, chart)
        board.post(0, 0)
        board.lift(0)
        self.assertIs(board.chart, chart)

    def test_what_is_linked_later_counts(self):
        chart = Map(4)
        chart.link(0, 1)
        board = Board(chart)
        board.post(2, 5)
        chart.link(3, 0)
        self.assertIs(board.chart.beside(0, 3), True)
        self.assertEqual(board.chart.near(0), [1, 3])
        self.assert_units(board, {2: 5})

    def test_units_leave_the_map_as_it_is(self):
        chart = Map(3)
        chart.link(0, 2)
        board = Board(chart)
        for at in range(3):
            board.post(at, at)
        board.lift(0)
        self.assertEqual(chart.size, 3)
        self.assertEqual([chart.near(at) for at in range(3)], [[2], [], [0]])

    def test_boards_of_one_map_know_nothing_of_one_another(self):
        chart = Map(3)
        one = Board(chart)
        other = Board(chart)
        one.post(0, 1)
        self.assert_units(other, {})
        other.post(0, 2)
        other.post(2, 0)
        self.assert_units(one, {0: 1})
        self.assert_refused(NoUnit, one.lift, 2)
        one.lift(0)
        self.assert_units(other, {0: 2, 2: 0})
        self.assert_units(Board(chart), {})
