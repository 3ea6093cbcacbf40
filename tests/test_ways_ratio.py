"""[5] The ratio at a place."""

import unittest

from oddbases.errors import NoRatio
from oddbases.pairs import multiplied
from oddbases.ways import Balanced, Below, Falling, Growing, Pairs, Plain
from refusals import RefusalCase
from samples import told, ways_of

PLACES = (0, 1, 2, 3, 17, 150, 299, 300)


class Ratio(RefusalCase):
    def assert_ratio(self, way, wanted):
        for place in PLACES + PLACES[::-1]:
            with self.subTest(way=told(way), place=place):
                self.assertEqual(way.ratio(place), wanted(place))
                self.assertIs(type(way.ratio(place)), type(wanted(place)))

    def test_plain(self):
        for way in ways_of(Plain):
            self.assert_ratio(way, lambda place: way.base)

    def test_below(self):
        for way in ways_of(Below):
            self.assert_ratio(way, lambda place: -way.base)

    def test_balanced(self):
        for way in ways_of(Balanced):
            self.assert_ratio(way, lambda place: 2 * way.half + 1)

    def test_growing(self):
        for way in ways_of(Growing):
            self.assert_ratio(way, lambda place: way.first + place)

    def test_pairs(self):
        for way in ways_of(Pairs):
            self.assert_ratio(way, lambda place: (-way.most, 1))

    def test_falling_has_none(self):
        for way in ways_of(Falling):
            for place in PLACES:
                with self.subTest(way=told(way), place=place):
                    self.assert_refused(NoRatio, way.ratio, place)

    def test_the_next_weight_is_the_ratio_times_the_weight(self):
        for way in ways_of(Plain, Below, Balanced, Growing, Pairs):
            for place in PLACES[:-1]:
                with self.subTest(way=told(way), place=place):
                    self.assertEqual(way.weight(place + 1), multiplied(way.ratio(place), way.weight(place)))


if __name__ == "__main__":
    unittest.main()
