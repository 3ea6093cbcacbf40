"""[7] The split of a total into a figure and a carry."""

import unittest

from oddbases.errors import NoRatio
from oddbases.ways import Balanced, Below, Falling, Growing, Pairs, Plain
from refusals import RefusalCase
from samples import HUGE, VAST, told, ways_of

PLACES = (0, 1, 2, 9, 300)
LARGE = (1000, 3599, 3600, 3601, 10 ** 9, HUGE, HUGE + 1, VAST, VAST - 1)
TOTALS = tuple(range(-130, 131)) + LARGE + tuple(-total for total in LARGE)
THINGS = tuple(range(-11, 12)) + (-HUGE, HUGE, -VAST, VAST)


class SplitOfWholeNumbers(unittest.TestCase):
    def test_known_splits(self):
        known = (
            (Plain(10), 123, 0, (3, 12)),
            (Plain(10), -7, 4, (3, -1)),
            (Plain(2), -1, 0, (1, -1)),
            (Below(10), 123, 0, (3, -12)),
            (Below(10), -7, 0, (3, 1)),
            (Below(2), -1, 3, (1, 1)),
            (Balanced(1), 2, 0, (-1, 1)),
            (Balanced(1), -2, 0, (1, -1)),
            (Balanced(30), 31, 0, (-30, 1)),
            (Growing(2), 7, 0, (1, 3)),
            (Growing(2), 7, 3, (2, 1)),
            (Growing(2), -1, 1, (2, -1)),
        )
        for way, total, place, wanted in known:
            with self.subTest(way=told(way), total=total, place=place):
                self.assertEqual(way.split(total, place), wanted)

    def test_figure_and_carry_come_to_the_total(self):
        for way in ways_of(Plain, Below, Balanced, Growing):
            for place in PLACES:
                with self.subTest(way=told(way), place=place):
                    for total in TOTALS:
                        self.assert_split(way, total, place)

    def assert_split(self, way, total, place):
        answer = way.split(total, place)
        self.assertIs(type(answer), tuple)
        figure, carry = answer
        self.assertEqual((type(figure), type(carry)), (int, int))
        self.assertTrue(way.low(place) <= figure <= way.high(place))
        self.assertEqual(figure + carry * way.ratio(place), total)
        self.assertEqual(way.split(total, place), answer)

    def test_each_figure_is_split_to_itself_and_nought(self):
        for way in ways_of(Plain, Below, Balanced, Growing):
            for place in PLACES:
                with self.subTest(way=told(way), place=place):
                    for figure in range(way.low(place), way.high(place) + 1):
                        self.assertEqual(way.split(figure, place), (figure, 0))


class SplitInPairs(unittest.TestCase):
    def test_known_splits(self):
        known = (
            (Pairs(1), 2, (0, (-1, -1))),
            (Pairs(1), (0, 1), (1, (1, 0))),
            (Pairs(1), -1, (1, (1, 1))),
            (Pairs(3), (0, 1), (3, (1, 0))),
            (Pairs(3), 10, (0, (-3, -1))),
            (Pairs(3), (-3, 1), (0, (1, 0))),
        )
        for way, total, wanted in known:
            with self.subTest(way=told(way), total=total):
                self.assertEqual(way.split(total, 0), wanted)

    def assert_split(self, way, total, pair, place):
        answer = way.split(total, place)
        self.assertIs(type(answer), tuple)
        figure, carry = answer
        self.assertEqual((type(figure), type(carry)), (int, tuple))
        self.assertEqual([type(thing) for thing in carry], [int, int])
        self.assertTrue(0 <= figure <= way.most ** 2)
        a, b = carry
        self.assertEqual((figure - way.most * a - b, a - way.most * b), pair)
        self.assertEqual(way.split(total, place), answer)

    def test_figure_and_carry_come_to_the_pair(self):
        for way in ways_of(Pairs):
            with self.subTest(way=told(way)):
                for one in THINGS:
                    for other in THINGS:
                        for place in (0, 1, 300):
                            self.assert_split(way, (one, other), (one, other), place)

    def test_figure_and_carry_come_to_the_whole_number(self):
        for way in ways_of(Pairs):
            for place in PLACES:
                with self.subTest(way=told(way), place=place):
                    for total in TOTALS:
                        self.assert_split(way, total, (total, 0), place)
                        self.assertEqual(way.split(total, place), way.split((total, 0), place))

    def test_each_figure_is_split_to_itself_and_nought(self):
        for way in ways_of(Pairs):
            for place in PLACES:
                for figure in range(way.most ** 2 + 1):
                    with self.subTest(way=told(way), place=place, figure=figure):
                        self.assertEqual(way.split(figure, place), (figure, (0, 0)))
                        self.assertEqual(way.split((figure, 0), place), (figure, (0, 0)))


class SplitInFalling(RefusalCase):
    def test_refused(self):
        for way in ways_of(Falling):
            for total in (0, 1, -1, way.most, way.most + 1, HUGE, -VAST):
                for place in PLACES:
                    with self.subTest(way=told(way), total=total, place=place):
                        self.assert_refused(NoRatio, way.split, total, place)


if __name__ == "__main__":
    unittest.main()
