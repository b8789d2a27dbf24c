"""Orders: what is told, what a newer order changes, and what is refused."""

from atonce.board import Board
from atonce.errors import NoPlace, NoUnit, OutOfReach
from atonce.maps import Map
from atonce.orders import Orders
from tests.helper import STAND, Position, RefusalCase, aid, filled, give, go, line, linked, no_places, ring, whole


def on_line(size, places):
    return Orders(filled(linked(size, line(size)), [(at, at % 8) for at in places]))


class OrdersCase(RefusalCase):
    def assert_orders(self, orders, given):
        for at, side in orders.board.roll():
            order = orders.told(at)
            self.assertIs(type(order), tuple)
            self.assertEqual(order, given.get(at, STAND), at)
        self.assert_told(orders.movers(), sorted(at for at in given if given[at][0] == "move"))


class ToldTest(OrdersCase):
    def test_at_first_each_unit_stands(self):
        for size in (1, 2, 5, 60):
            self.assert_orders(on_line(size, []), {})
            self.assert_orders(on_line(size, range(size)), {})

    def test_each_order(self):
        orders = on_line(4, [0, 1, 2, 3])
        given = {0: go(1), 1: aid(0, 0), 2: aid(0, 1), 3: STAND}
        for at in given:
            give(orders, at, given[at])
        self.assert_orders(orders, given)

    def test_orders_give_back_nothing(self):
        orders = on_line(3, [0, 1, 2])
        self.assertIsNone(orders.stand(0))
        self.assertIsNone(orders.move(0, 1))
        self.assertIsNone(orders.aid(0, 2, 1))

    def test_a_newer_order_takes_the_elder_ones_place(self):
        kinds = (STAND, go(1), go(3), aid(1, 1), aid(1, 3), aid(3, 1))
        for elder in kinds:
            for newer in kinds:
                with self.subTest(elder=elder, newer=newer):
                    orders = Orders(filled(linked(4, ring(4) + [(1, 3)]), [(at, 0) for at in range(4)]))
                    others = {1: go(0), 2: aid(0, 3), 3: aid(2, 2)}
                    for at in others:
                        give(orders, at, others[at])
                    give(orders, 0, elder)
                    self.assert_orders(orders, {**others, 0: elder})
                    give(orders, 0, newer)
                    self.assert_orders(orders, {**others, 0: newer})

    def test_what_others_are_ordered_turns_no_order(self):
        orders = on_line(4, [0, 1, 2, 3])
        given = {}
        for at, order in ((0, aid(2, 1)), (2, go(1)), (2, go(3)), (2, aid(3, 3)), (3, go(2)), (1, go(0)), (3, STAND)):
            give(orders, at, order)
            given[at] = order
            self.assert_orders(orders, given)

    def test_any_side_may_be_helped(self):
        orders = Orders(filled(linked(3, whole(3)), [(0, 0), (1, 7)]))
        orders.aid(0, 1, 2)
        orders.aid(1, 0, 0)
        self.assert_orders(orders, {0: aid(1, 2), 1: aid(0, 0)})

    def test_a_help_to_stand_needs_no_neighbour_of_the_helped(self):
        orders = Orders(filled(linked(2, [(0, 1)]), [(0, 3), (1, 3)]))
        orders.aid(0, 1, 1)
        self.assert_orders(orders, {0: aid(1, 1)})

    def test_helper_and_helped_need_not_be_neighbours(self):
        orders = Orders(filled(linked(3, [(0, 1), (2, 1)]), [(0, 3), (2, 3)]))
        orders.aid(0, 2, 1)
        self.assert_orders(orders, {0: aid(2, 1)})

    def test_orders_on_60_places(self):
        orders = on_line(60, range(60))
        given = {at: (STAND, go(at + 1), aid(at - 1, at - 1), aid(at - 2, at - 1))[at % 4] for at in range(60)}
        for at in sorted(given, key=lambda at: at * 7 % 60):
            give(orders, at, given[at])
        self.assert_orders(orders, given)

    def test_arguments_by_name(self):
        orders = Orders(board=filled(linked(3, line(3)), [(0, 0), (1, 1), (2, 2)]))
        orders.move(at=0, goal=1)
        orders.stand(at=1)
        orders.aid(at=2, helped=0, goal=1)
        self.assertEqual(orders.told(at=2), aid(0, 1))
        self.assert_orders(orders, {0: go(1), 2: aid(0, 1)})


class MoversTest(OrdersCase):
    def test_rising_whatever_the_order(self):
        for order in ((9, 1, 30, 2, 11), (30, 11, 9, 2, 1), (1, 2, 9, 11, 30)):
            orders = on_line(60, range(60))
            for at in order:
                orders.move(at, at - 1)
            self.assert_told(orders.movers(), [1, 2, 9, 11, 30])

    def test_helps_and_stands_are_no_moves(self):
        orders = on_line(3, [0, 1, 2])
        for at in (0, 2):
            orders.move(at, 1)
        orders.aid(0, 2, 1)
        self.assert_told(orders.movers(), [2])
        orders.stand(2)
        self.assert_told(orders.movers(), [])

    def test_a_list_of_movers_is_the_callers_own(self):
        orders = on_line(4, [0, 1, 2, 3])
        orders.move(3, 2)
        orders.move(0, 1)
        movers = orders.movers()
        self.assertIsNot(orders.movers(), movers)
        movers.append(2)
        movers.reverse()
        self.assert_orders(orders, {0: go(1), 3: go(2)})
        kept = orders.movers()
        orders.stand(0)
        self.assertEqual(kept, [0, 3])
        self.assert_told(orders.movers(), [3])


class BoardTest(OrdersCase):
    def test_the_very_board_is_kept(self):
        board = filled(linked(2, line(2)), [(0, 5)])
        orders = Orders(board)
        self.assertIs(orders.board, board)
        orders.move(0, 1)
        self.assertIs(orders.board, board)
        self.assertEqual(board.roll(), [(0, 5)])

    def test_two_orders_of_one_board_know_nothing_of_one_another(self):
        board = filled(linked(3, line(3)), [(0, 0), (1, 1), (2, 2)])
        one = Orders(board)
        other = Orders(board)
        one.move(0, 1)
        self.assert_orders(other, {})
        other.aid(0, 2, 1)
        other.move(2, 1)
        self.assert_orders(one, {0: go(1)})
        one.stand(0)
        self.assert_orders(other, {0: aid(2, 1), 2: go(1)})
        self.assert_orders(Orders(board), {})

    def test_places_made_neighbours_later_count(self):
        chart = Map(4)
        orders = Orders(filled(chart, [(0, 0), (1, 1)]))
        self.assert_refused(OutOfReach, orders.move, 0, 2)
        chart.link(2, 0)
        orders.move(0, 2)
        self.assert_refused(OutOfReach, orders.aid, 1, 0, 2)
        chart.link(1, 2)
        orders.aid(1, 0, 2)
        self.assert_orders(orders, {0: go(2), 1: aid(0, 2)})

    def test_neighbours_either_way_round(self):
        for pair in ((0, 1), (1, 0)):
            orders = Orders(filled(linked(2, [pair]), [(0, 0), (1, 1)]))
            orders.move(0, 1)
            orders.move(1, 0)
            self.assert_orders(orders, {0: go(1), 1: go(0)})


class RefusedTest(OrdersCase):
    def positions(self):
        """Some with orders given, so that a refused call could change them."""
        yield Position(1, [], {}, {})
        yield Position(1, [], {0: 0}, {})
        yield Position(4, line(4), {0: 0, 1: 7, 3: 0}, {0: go(1), 1: aid(3, 2), 3: go(2)})
        yield Position(4, whole(4), {at: at for at in range(4)}, {at: go((at + 1) % 4) for at in range(4)})
        yield Position(60, ring(60), {at: at % 8 for at in range(0, 60, 2)},
                       {at: (go(at + 1), aid((at + 2) % 60, at + 1))[at // 2 % 2] for at in range(0, 60, 2)})

    def test_no_place(self):
        for position in self.positions():
            orders = position.orders()
            rights = sorted({0, 1, position.size // 2, position.size - 1} & set(range(position.size)))
            for wrong in no_places(position.size):
                self.assert_refused(NoPlace, orders.stand, wrong)
                self.assert_refused(NoPlace, orders.told, wrong)
                self.assert_refused(NoPlace, orders.move, wrong, wrong)
                self.assert_refused(NoPlace, orders.aid, wrong, wrong, wrong)
                for one in rights:
                    self.assert_refused(NoPlace, orders.move, wrong, one)
                    self.assert_refused(NoPlace, orders.move, one, wrong)
                    self.assert_refused(NoPlace, orders.aid, wrong, wrong, one)
                    self.assert_refused(NoPlace, orders.aid, wrong, one, wrong)
                    self.assert_refused(NoPlace, orders.aid, one, wrong, wrong)
                    for other in rights:
                        self.assert_refused(NoPlace, orders.aid, wrong, one, other)
                        self.assert_refused(NoPlace, orders.aid, one, wrong, other)
                        self.assert_refused(NoPlace, orders.aid, one, other, wrong)
            self.assert_orders(orders, position.given)

    def test_no_unit(self):
        for position in self.positions():
            orders = position.orders()
            rights = sorted({0, 1, 2, 3, position.size - 1} & set(range(position.size)))
            for at in rights:
                if at in position.units:
                    continue
                self.assert_refused(NoUnit, orders.stand, at)
                self.assert_refused(NoUnit, orders.told, at)
                for one in rights:
                    self.assert_refused(NoUnit, orders.move, at, one)
                    for other in rights:
                        self.assert_refused(NoUnit, orders.aid, at, one, other)
                        self.assert_refused(NoUnit, orders.aid, one, at, other)
            self.assert_orders(orders, position.given)

    def test_out_of_reach(self):
        """Every move and help among the units there is, held against point 4."""
        for position in self.positions():
            orders = position.orders()
            wide = range(min(position.size, 8))
            for at in [at for at in wide if at in position.units]:
                near = position.near(at)
                for goal in wide:
                    if goal not in near:
                        self.assert_refused(OutOfReach, orders.move, at, goal)
                    self.assert_refused(OutOfReach, orders.aid, at, at, goal)
                    for helped in [helped for helped in wide if helped in position.units]:
                        if goal not in near or goal not in [helped] + position.near(helped):
                            self.assert_refused(OutOfReach, orders.aid, at, helped, goal)
            self.assert_orders(orders, position.given)

    def test_a_goal_that_is_the_own_place(self):
        orders = Orders(filled(linked(3, whole(3)), [(0, 0), (1, 0), (2, 0)]))
        self.assert_refused(OutOfReach, orders.move, 1, 1)
        self.assert_refused(OutOfReach, orders.aid, 1, 0, 1)
        self.assert_refused(OutOfReach, orders.aid, 1, 1, 1)
        self.assert_refused(OutOfReach, orders.aid, 1, 1, 0)
        self.assert_orders(orders, {})

    def test_each_bound_of_a_help(self):
        orders = Orders(filled(linked(5, [(0, 1), (1, 2), (2, 3), (0, 4)]), [(0, 0), (1, 0), (2, 0), (3, 0)]))
        # Helped and goal are neighbours, helper and goal are not.
        self.assert_refused(OutOfReach, orders.aid, 0, 1, 2)
        # Help to stand, too far off for the helper.
        self.assert_refused(OutOfReach, orders.aid, 0, 2, 2)
        # Helper and goal are neighbours, helped and goal are not.
        self.assert_refused(OutOfReach, orders.aid, 0, 3, 1)
        self.assert_refused(OutOfReach, orders.aid, 0, 1, 4)
        self.assert_orders(orders, {})

    def test_the_first_due_is_raised(self):
        orders = Orders(filled(Map(3), [(0, 0), (1, 1)]))
        self.assert_refused(NoPlace, orders.aid, 2, 2, 3)
        self.assert_refused(NoPlace, orders.move, 2, -1)
        self.assert_refused(NoUnit, orders.move, 2, 2)
        self.assert_refused(NoUnit, orders.aid, 2, 2, 2)
        self.assert_refused(NoUnit, orders.aid, 0, 2, 0)
        self.assert_refused(OutOfReach, orders.aid, 0, 0, 0)
        self.assert_orders(orders, {})

    def test_what_was_refused_leaves_later_orders_free(self):
        board = Board(linked(3, line(3)))
        board.post(0, 0)
        orders = Orders(board)
        self.assert_refused(OutOfReach, orders.move, 0, 2)
        self.assert_refused(NoUnit, orders.move, 1, 2)
        orders.move(0, 1)
        self.assert_orders(orders, {0: go(1)})
