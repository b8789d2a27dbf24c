"""The map: its size, its neighbours and its refusals."""

from atonce.errors import NoPlace, OutOfReach
from atonce.maps import Map
from tests.helper import RefusalCase, leaps, line, linked, no_places, star, whole

SHAPES = (line, star, whole, leaps)


class MapCase(RefusalCase):
    def assert_neighbours(self, chart, pairs):
        both_ways = set(pairs) | {(b, a) for a, b in pairs}
        for a in range(chart.size):
            for b in range(chart.size):
                self.assertIs(chart.beside(a, b), (a, b) in both_ways, (a, b))
            near = chart.near(a)
            self.assertIs(type(near), list)
            self.assertEqual(near, sorted(b for c, b in both_ways if c == a))


class SizeTest(MapCase):
    def test_each_size(self):
        for size in range(1, 61):
            chart = Map(size)
            self.assertEqual(chart.size, size)
            self.assertIs(type(chart.size), int)

    def test_links_leave_the_size(self):
        self.assertEqual(linked(60, whole(60)).size, 60)

    def test_a_size_somewhat_beyond_is_not_refused(self):
        for size in (61, 75):
            with self.subTest(size=size):
                chart = linked(size, [(size - 1, 0)])
                self.assertEqual(chart.size, size)
                self.assert_neighbours(chart, [(0, size - 1)])
                self.assert_refused(NoPlace, chart.near, size)

    def test_a_size_of_nought_has_no_place(self):
        chart = Map(0)
        self.assertEqual(chart.size, 0)
        for at in (-1, 0, 1):
            self.assert_refused(NoPlace, chart.near, at)

    def test_arguments_by_name(self):
        chart = Map(size=3)
        chart.link(a=0, b=1)
        self.assertIs(chart.beside(a=1, b=0), True)
        self.assertEqual(chart.near(a=1), [0])


class NeighboursTest(MapCase):
    def test_at_first_there_are_none(self):
        for size in range(1, 61):
            self.assert_neighbours(Map(size), [])

    def test_one_link(self):
        for a, b in ((0, 1), (1, 0), (0, 4), (4, 2)):
            with self.subTest(a=a, b=b):
                self.assert_neighbours(linked(5, [(a, b)]), [(a, b)])

    def test_shapes(self):
        for size in (1, 2, 3, 8, 60):
            for shape in SHAPES:
                with self.subTest(size=size, shape=shape.__name__):
                    pairs = shape(size)
                    self.assert_neighbours(linked(size, pairs), pairs)

    def test_neighbours_of_a_neighbour_are_none(self):
        chart = linked(3, [(0, 1), (1, 2)])
        self.assertIs(chart.beside(0, 2), False)
        self.assertEqual(chart.near(0), [1])

    def test_near_rises_whatever_the_order(self):
        for order in ((1, 5, 11, 2, 9), (11, 9, 5, 2, 1), (9, 1, 11, 5, 2)):
            with self.subTest(order=order):
                chart = Map(12)
                for count, at in enumerate(order):
                    pair = (at, 6) if count % 2 else (6, at)
                    chart.link(*pair)
                self.assertEqual(chart.near(6), [1, 2, 5, 9, 11])

    def test_a_link_made_again_changes_nothing(self):
        pairs = [(0, 3), (3, 1), (2, 4)]
        chart = linked(5, pairs)
        for a, b in pairs + [(b, a) for a, b in pairs] + pairs:
            chart.link(a, b)
            self.assert_neighbours(chart, pairs)

    def test_maps_know_nothing_of_one_another(self):
        elder = Map(4)
        chart = linked(4, [(0, 1), (2, 3)])
        younger = Map(4)
        self.assert_neighbours(elder, [])
        self.assert_neighbours(younger, [])
        younger.link(1, 2)
        self.assert_neighbours(chart, [(0, 1), (2, 3)])
        self.assert_neighbours(elder, [])

    def test_a_list_of_near_is_the_callers_own(self):
        chart = linked(5, [(0, 2), (0, 4)])
        for at in range(5):
            near = chart.near(at)
            near.append(1)
            near.insert(0, 3)
            near.reverse()
            self.assertIsNot(chart.near(at), chart.near(at))
            self.assert_neighbours(chart, [(0, 2), (0, 4)])
            chart.near(at).clear()
            self.assert_neighbours(chart, [(0, 2), (0, 4)])

    def test_a_list_of_near_stays_as_it_was_given(self):
        chart = linked(5, [(0, 2)])
        near = chart.near(0)
        chart.link(0, 1)
        self.assertEqual(near, [2])
        self.assertEqual(chart.near(0), [1, 2])


class RefusedTest(MapCase):
    def test_no_place(self):
        for size in (1, 2, 5, 60):
            pairs = line(size)
            chart = linked(size, pairs)
            for wrong in no_places(size):
                self.assert_refused(NoPlace, chart.near, wrong)
                for call in (chart.link, chart.beside):
                    for right in sorted({0, size // 2, size - 1}):
                        self.assert_refused(NoPlace, call, wrong, right)
                        self.assert_refused(NoPlace, call, right, wrong)
                    for other in no_places(size):
                        self.assert_refused(NoPlace, call, wrong, other)
            self.assertEqual(chart.size, size)
            self.assert_neighbours(chart, pairs)

    def test_link_of_one_place(self):
        for size in (1, 2, 5, 60):
            for pairs in ([], line(size)):
                chart = linked(size, pairs)
                for at in range(size):
                    self.assert_refused(OutOfReach, chart.link, at, at)
                self.assert_neighbours(chart, pairs)

    def test_what_was_refused_is_no_place_later(self):
        chart = Map(3)
        self.assert_refused(NoPlace, chart.link, 0, 3)
        chart.link(0, 2)
        self.assert_refused(NoPlace, chart.near, 3)
        self.assert_refused(NoPlace, chart.beside, 0, 3)
        self.assert_neighbours(chart, [(0, 2)])
