"""The refusals: what they are, and which of several is raised."""

import unittest

from atonce.board import Board
from atonce.errors import Crowded, NoPlace, NoSide, NoUnit, OrderError, OutOfReach
from atonce.maps import Map
from tests.helper import REFUSALS, RefusalCase


class KindsTest(unittest.TestCase):
    def test_any_refusal_is_a_value_error(self):
        self.assertEqual(OrderError.__bases__, (ValueError,))

    def test_each_refusal_is_an_order_error(self):
        for kind in REFUSALS:
            with self.subTest(kind=kind.__name__):
                self.assertEqual(kind.__bases__, (OrderError,))

    def test_no_refusal_is_another_one(self):
        for one in REFUSALS:
            for other in REFUSALS:
                self.assertEqual(issubclass(one, other), one is other)

    def test_names(self):
        names = [kind.__name__ for kind in REFUSALS]
        self.assertEqual(names, ["NoPlace", "NoSide", "Crowded", "NoUnit", "OutOfReach"])


class DueTest(RefusalCase):
    def setUp(self):
        self.chart = Map(3)
        self.board = Board(self.chart)
        for at in range(3):
            self.board.post(at, at)
        self.bare = Board(self.chart)

    def test_one_is_due(self):
        self.assert_refused(NoPlace, self.chart.near, 3)
        self.assert_refused(NoSide, self.bare.post, 0, 8)
        self.assert_refused(Crowded, self.board.post, 0, 1)
        self.assert_refused(NoUnit, self.bare.lift, 0)
        self.assert_refused(OutOfReach, self.chart.link, 1, 1)

    def test_no_place_goes_ahead_of_no_side(self):
        for at in (-1, 3, 99):
            for side in (-1, 8, 99):
                self.assert_refused(NoPlace, self.bare.post, at, side)

    def test_no_place_goes_ahead_of_no_side_on_a_full_board(self):
        for at in (-1, -3, 3, 99):
            for side in (-1, 8, 99):
                self.assert_refused(NoPlace, self.board.post, at, side)

    def test_no_side_goes_ahead_of_crowded(self):
        for at in range(3):
            for side in (-1, 8, 99):
                self.assert_refused(NoSide, self.board.post, at, side)

    def test_no_place_goes_ahead_of_no_unit(self):
        for at in (-1, -3, 3, 99):
            self.assert_refused(NoPlace, self.bare.lift, at)

    def test_no_place_goes_ahead_of_out_of_reach(self):
        for at in (-1, -3, 3, 99):
            self.assert_refused(NoPlace, self.chart.link, at, at)

    def test_refused_calls_change_nothing(self):
        self.test_one_is_due()
        self.test_no_side_goes_ahead_of_crowded()
        self.test_no_place_goes_ahead_of_out_of_reach()
        self.assertEqual(self.board.roll(), [(0, 0), (1, 1), (2, 2)])
        self.assertEqual(self.bare.roll(), [])
        self.assertEqual([self.chart.near(at) for at in range(3)], [[], [], []])
