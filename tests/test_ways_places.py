"""[4] The six ways: their bounds, figures and weights."""

import math
import unittest

from oddbases.errors import NoWay
from oddbases.ways import Balanced, Below, Falling, Growing, Pairs, Plain, Way
from refusals import RefusalCase
from samples import ALL, HUGE, SORTS, VAST, numbers_of, told, ways_of, weights_by_hand

PLACES = (0, 1, 2, 3, 10, 99, 298, 299, 300)


class Bounds(RefusalCase):
    def test_each_way_stands_straight_under_way(self):
        for sort, name, least, most in SORTS:
            self.assertEqual(sort.__bases__, (Way,))
        self.assertIs(type(Way()), Way)

    def test_all_within_the_bounds_are_made_and_keep_their_number(self):
        for sort, name, least, most in SORTS:
            for number in range(least, most + 1):
                with self.subTest(sort=sort, number=number):
                    self.assertEqual(getattr(sort(number), name), number)
                    self.assertEqual(getattr(sort(**{name: number}), name), number)

    def test_all_else_is_refused(self):
        for sort, name, least, most in SORTS:
            near = [least - 1, most + 1, least - 2, most + 2, 0, -1, -least, -most]
            for number in near + [61, 100, -60, HUGE, -HUGE, VAST, -VAST, 10 ** 5000]:
                with self.subTest(sort=sort, far=number.bit_length(), number=number % 10 ** 9):
                    self.assert_refused(NoWay, sort, number)

    def test_a_way_made_behind_a_refusal_is_made_as_ever(self):
        for sort, name, least, most in SORTS:
            for number in numbers_of(sort, least, most):
                with self.subTest(sort=sort, number=number):
                    ahead = sort(number)
                    self.assert_refused(NoWay, sort, most + 1)
                    behind = sort(number)
                    self.assertEqual(getattr(behind, name), number)
                    for place in (0, 1, 7):
                        self.assertEqual(behind.weight(place), ahead.weight(place))
                        self.assertEqual(behind.low(place), ahead.low(place))
                        self.assertEqual(behind.high(place), ahead.high(place))


class Figures(unittest.TestCase):
    def assert_figures(self, way, low, high):
        for place in PLACES + tuple(reversed(PLACES)):
            with self.subTest(way=told(way), place=place):
                self.assertEqual((way.low(place), way.high(place)), (low(place), high(place)))
                self.assertEqual((type(way.low(place)), type(way.high(place))), (int, int))

    def test_plain_and_below(self):
        for way in ways_of(Plain, Below):
            self.assert_figures(way, lambda place: 0, lambda place: way.base - 1)

    def test_balanced(self):
        for way in ways_of(Balanced):
            self.assert_figures(way, lambda place: -way.half, lambda place: way.half)

    def test_growing(self):
        for way in ways_of(Growing):
            self.assert_figures(way, lambda place: 0, lambda place: way.first + place - 1)

    def test_falling(self):
        for way in ways_of(Falling):
            self.assert_figures(way, lambda place: 0, lambda place: way.most)

    def test_pairs(self):
        for way in ways_of(Pairs):
            self.assert_figures(way, lambda place: 0, lambda place: way.most ** 2)


class Weights(unittest.TestCase):
    def test_known_weights(self):
        known = (
            (Plain(2), [1, 2, 4, 8, 16]),
            (Plain(10), [1, 10, 100, 1000, 10000]),
            (Plain(60), [1, 60, 3600, 216000]),
            (Below(2), [1, -2, 4, -8, 16]),
            (Below(10), [1, -10, 100, -1000, 10000]),
            (Below(60), [1, -60, 3600, -216000]),
            (Balanced(1), [1, 3, 9, 27, 81]),
            (Balanced(2), [1, 5, 25, 125]),
            (Balanced(30), [1, 61, 3721, 226981]),
            (Growing(2), [1, 2, 6, 24, 120, 720]),
            (Growing(10), [1, 10, 110, 1320, 17160]),
            (Growing(60), [1, 60, 3660, 226920]),
            (Falling(1), [1, 2, 3, 5, 8, 13, 21]),
            (Falling(2), [1, 3, 7, 17, 41]),
            (Falling(9), [1, 10, 91, 829, 7552]),
            (Pairs(1), [(1, 0), (-1, 1), (0, -2), (2, 2), (-4, 0)]),
            (Pairs(3), [(1, 0), (-3, 1), (8, -6), (-18, 26)]),
            (Pairs(9), [(1, 0), (-9, 1), (80, -18), (-702, 242)]),
        )
        for way, weights in known:
            with self.subTest(way=told(way)):
                self.assertEqual([way.weight(place) for place in range(len(weights))], weights)

    def test_far_weights(self):
        for place in PLACES:
            for way in ways_of(Plain):
                self.assertEqual(way.weight(place), way.base ** place)
            for way in ways_of(Below):
                self.assertEqual(way.weight(place), (-way.base) ** place)
            for way in ways_of(Balanced):
                self.assertEqual(way.weight(place), (2 * way.half + 1) ** place)
            for way in ways_of(Growing):
                wanted = math.factorial(way.first + place - 1) // math.factorial(way.first - 1)
                self.assertEqual(way.weight(place), wanted)

    def test_each_weight_is_made_of_the_ones_ahead(self):
        for way in ways_of(*ALL):
            with self.subTest(way=told(way)):
                self.assertEqual([way.weight(place) for place in range(301)], weights_by_hand(way, 301))

    def test_asked_in_any_order_and_twice(self):
        for way in ways_of(*ALL):
            with self.subTest(way=told(way)):
                number = dict(vars(way))
                rising = [type(way)(*number.values()).weight(place) for place in PLACES]
                self.assertEqual([way.weight(place) for place in reversed(PLACES)], rising[::-1])
                self.assertEqual([way.weight(place) for place in PLACES], rising)
                self.assertEqual([way.weight(place) for place in PLACES], rising)

    def test_kinds(self):
        for place in PLACES:
            for way in ways_of(Plain, Below, Balanced, Growing, Falling):
                self.assertIs(type(way.weight(place)), int)
            for way in ways_of(Pairs):
                self.assertIs(type(way.weight(place)), tuple)
                self.assertEqual([type(thing) for thing in way.weight(place)], [int, int])


if __name__ == "__main__":
    unittest.main()
