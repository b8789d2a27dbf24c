"""Force: helps that are cut or count, and the force and the firmness they make."""

import unittest

from atonce.force import counts, firmness, force, force_against, is_cut
from tests.helper import STAND, Position, aid, crowd, go, random_positions, triangle_positions, whole


class CutTest(unittest.TestCase):
    def assert_help(self, orders, at, cut, counted):
        self.assertIs(is_cut(orders, at), cut)
        self.assertIs(counts(orders, at), counted)

    def test_a_help_without_comers(self):
        orders = crowd([1, 1], {0: go(8), 1: aid(0, 8)}).orders()
        self.assert_help(orders, 1, False, True)

    def test_a_comer_of_another_side_cuts(self):
        for foe in range(8):
            orders = crowd([1, 1, foe], {0: go(8), 1: aid(0, 8), 2: go(1)}).orders()
            self.assert_help(orders, 1, foe != 1, foe == 1)

    def test_a_comer_cuts_help_to_stand(self):
        for foe in range(8):
            orders = crowd([1, 1, foe], {1: aid(0, 0), 2: go(1)}).orders()
            self.assert_help(orders, 1, foe != 1, foe == 1)

    def test_the_helpers_side_is_held_against_the_comer_and_not_the_helpeds(self):
        orders = crowd([2, 1, 2], {0: go(8), 1: aid(0, 8), 2: go(1)}).orders()
        self.assert_help(orders, 1, True, False)
        orders = crowd([2, 1, 1], {0: go(8), 1: aid(0, 8), 2: go(1)}).orders()
        self.assert_help(orders, 1, False, True)

    def test_a_comer_out_of_the_goal_does_not_cut(self):
        orders = crowd([1, 1, 2], {0: go(2), 1: aid(0, 2), 2: go(1)}).orders()
        self.assert_help(orders, 1, False, True)

    def test_a_second_comer_cuts_beside_the_one_out_of_the_goal(self):
        orders = crowd([1, 1, 2, 2], {0: go(2), 1: aid(0, 2), 2: go(1), 3: go(1)}).orders()
        self.assert_help(orders, 1, True, False)
        orders = crowd([1, 1, 2, 1], {0: go(2), 1: aid(0, 2), 2: go(1), 3: go(1)}).orders()
        self.assert_help(orders, 1, False, True)

    def test_only_moves_to_the_helpers_place_cut(self):
        for order in (STAND, go(0), go(8), go(3), aid(3, 1), aid(1, 1)):
            orders = crowd([1, 1, 2, 2], {0: go(8), 1: aid(0, 8), 2: order}).orders()
            self.assert_help(orders, 1, False, True)

    def test_a_move_that_comes_to_nothing_cuts_all_the_same(self):
        given = {0: go(8), 1: aid(0, 8), 2: go(1), 3: go(1), 4: aid(3, 1), 5: aid(1, 1)}
        orders = crowd([1, 1, 2, 1, 1, 1], given).orders()
        self.assert_help(orders, 1, True, False)

    def test_the_helped_unit_may_cut_its_own_help(self):
        orders = crowd([2, 1], {0: go(1), 1: aid(0, 8)}).orders()
        self.assert_help(orders, 1, True, False)
        orders = crowd([1, 1], {0: go(1), 1: aid(0, 8)}).orders()
        self.assert_help(orders, 1, False, False)
        # Here it stands in the goal.
        orders = crowd([2, 1], {0: go(1), 1: aid(0, 0)}).orders()
        self.assert_help(orders, 1, False, False)

    def test_a_help_that_fits_nothing_is_cut_too(self):
        orders = crowd([1, 1, 2], {0: go(3), 1: aid(0, 8), 2: go(1)}).orders()
        self.assert_help(orders, 1, True, False)

    def test_no_help_is_never_cut_and_does_not_count(self):
        for order in (STAND, go(8), go(2)):
            orders = crowd([1, 1, 2], {1: order, 2: go(1)}).orders()
            self.assert_help(orders, 1, False, False)


class CountsTest(unittest.TestCase):
    def test_help_to_move_fits_that_very_move(self):
        for order in (STAND, go(8), go(2), go(1), aid(1, 1), aid(2, 8)):
            orders = crowd([1, 1, 1], {0: order, 1: aid(0, 8)}).orders()
            self.assertIs(counts(orders, 1), order == go(8))
            self.assertIs(is_cut(orders, 1), False)

    def test_help_to_stand_fits_what_is_no_move(self):
        for order in (STAND, go(8), go(2), go(1), aid(1, 1), aid(2, 8)):
            orders = crowd([1, 1, 1], {0: order, 1: aid(0, 0)}).orders()
            self.assertIs(counts(orders, 1), order[0] != "move")

    def test_help_to_another_unit_with_the_same_goal(self):
        orders = crowd([1, 1, 1], {0: go(8), 1: aid(2, 8)}).orders()
        self.assertIs(counts(orders, 1), False)

    def test_help_to_a_unit_of_another_side_counts(self):
        for side in range(8):
            orders = crowd([side, 1, 1], {0: go(8), 1: aid(0, 8), 2: aid(1, 1)}).orders()
            self.assertIs(counts(orders, 1), True)
            self.assertIs(counts(orders, 2), True)

    def test_units_that_help_one_another(self):
        orders = crowd([1, 2], {0: aid(1, 1), 1: aid(0, 0)}).orders()
        self.assertIs(counts(orders, 0), True)
        self.assertIs(counts(orders, 1), True)
        self.assertEqual([firmness(orders, at) for at in (0, 1)], [2, 2])


class ForceTest(unittest.TestCase):
    def test_a_unit_alone(self):
        for order, strength in ((STAND, 0), (aid(1, 1), 0), (aid(1, 8), 0), (go(8), 1), (go(1), 1)):
            orders = crowd([1, 2], {0: order}).orders()
            self.assertEqual(force(orders, 0), strength)
            self.assertEqual([force_against(orders, 0, side) for side in range(8)], [strength] * 8)
            self.assertEqual(firmness(orders, 0), 1)

    def test_force_is_nought_where_helps_to_stand_count(self):
        orders = crowd([1, 1, 2], {1: aid(0, 0), 2: aid(0, 0)}).orders()
        self.assertEqual(force(orders, 0), 0)
        self.assertEqual([force_against(orders, 0, side) for side in range(8)], [0] * 8)
        self.assertEqual(firmness(orders, 0), 3)

    def test_firmness_is_one_where_helps_to_move_count(self):
        orders = crowd([1, 1, 2], {0: go(8), 1: aid(0, 8), 2: aid(0, 8)}).orders()
        self.assertEqual(firmness(orders, 0), 1)
        self.assertEqual(force(orders, 0), 3)

    def test_firmness_leaves_no_side_out(self):
        orders = crowd([1, 1, 2, 3], {1: aid(0, 0), 2: aid(0, 0), 3: aid(0, 0)}).orders()
        self.assertEqual(firmness(orders, 0), 4)

    def test_a_unit_that_helps_is_as_firm_as_one_that_stands(self):
        orders = crowd([1, 1, 1], {0: aid(2, 2), 1: aid(0, 0)}).orders()
        self.assertEqual(firmness(orders, 0), 2)

    def test_helps_that_do_not_count_make_nothing(self):
        given = {0: go(8), 1: aid(0, 8), 2: go(1), 3: aid(0, 4), 4: aid(0, 0), 5: aid(2, 8)}
        orders = crowd([1, 1, 2, 1, 1, 1], given).orders()
        self.assertEqual(force(orders, 0), 1)
        self.assertEqual(firmness(orders, 0), 1)

    def test_force_against_a_side_leaves_out_its_helps(self):
        orders = crowd([0, 0, 0, 1, 7, 7, 7], {0: go(8), **{at: aid(0, 8) for at in range(1, 7)}}).orders()
        self.assertEqual(force(orders, 0), 7)
        self.assertEqual([force_against(orders, 0, side) for side in range(8)], [5, 6, 7, 7, 7, 7, 7, 4])

    def test_a_number_that_is_no_side_leaves_out_none(self):
        orders = crowd([0, 0, 7], {0: go(8), 1: aid(0, 8), 2: aid(0, 8)}).orders()
        self.assertEqual([force_against(orders, 0, side) for side in (-1, 8, 60)], [3, 3, 3])
        self.assertEqual([force_against(orders, 1, side) for side in (-1, 8, 60)], [0, 0, 0])

    def test_many_helpers_on_60_places(self):
        units = {at: at % 8 for at in range(60) if at != 1}
        moved = Position(60, whole(60), units, {0: go(1), **{at: aid(0, 1) for at in range(2, 60)}}).orders()
        self.assertEqual(force(moved, 0), 59)
        helpers = [[at % 8 for at in range(2, 60)].count(side) for side in range(8)]
        self.assertEqual([force_against(moved, 0, side) for side in range(8)], [59 - few for few in helpers])
        stood = Position(60, whole(60), units, {at: aid(0, 0) for at in range(2, 60)}).orders()
        self.assertEqual(firmness(stood, 0), 59)
        self.assertEqual(force(stood, 0), 0)

    def test_arguments_by_name(self):
        orders = crowd([1, 1], {0: go(8), 1: aid(0, 8)}).orders()
        self.assertIs(is_cut(orders=orders, at=1), False)
        self.assertIs(counts(orders=orders, at=1), True)
        self.assertEqual(force(orders=orders, at=0), 2)
        self.assertEqual(force_against(orders=orders, at=0, side=1), 1)
        self.assertEqual(firmness(orders=orders, at=0), 1)


class AgainstTheModelTest(unittest.TestCase):
    def assert_as_modelled(self, position):
        orders = position.orders()
        for at in position.units:
            self.assertIs(is_cut(orders, at), position.is_cut(at), (position, at))
            self.assertIs(counts(orders, at), position.counts(at), (position, at))
            self.assertEqual(force(orders, at), position.force(at), (position, at))
            self.assertEqual(firmness(orders, at), position.firmness(at), (position, at))
            for side in range(8):
                self.assertEqual(force_against(orders, at, side), position.force_against(at, side), (position, at))

    def test_all_positions_on_a_triangle(self):
        for position in triangle_positions():
            self.assert_as_modelled(position)

    def test_many_positions(self):
        for position in random_positions():
            self.assert_as_modelled(position)
