"""[8] Which rows are writings."""

import itertools
import unittest

from oddbases.ways import Balanced, Below, Falling, Growing, Pairs, Plain
from oddbases.writings import is_writing
from samples import ALL, HUGE, VAST, WITH_RATIO, chance_of, drawn_writing, small_writings, told, ways_of

LENGTHS = (1, 2, 3, 7, 40, 300)


class ToldCase(unittest.TestCase):
    def assert_told(self, way, row, wanted):
        handed = list(row)
        self.assertIs(is_writing(way, handed), wanted)
        self.assertEqual(handed, row)


class IsWriting(ToldCase):
    def test_the_row_of_nothing_is_one(self):
        for way in ways_of(*ALL):
            with self.subTest(way=told(way)):
                self.assert_told(way, [], True)

    def test_rows_at_the_bounds_of_their_figures(self):
        for way in ways_of(*WITH_RATIO):
            for length in LENGTHS:
                with self.subTest(way=told(way), length=length):
                    self.assert_told(way, [way.high(place) for place in range(length)], True)
                    lows = [way.low(place) for place in range(length)]
                    self.assert_told(way, lows, isinstance(way, Balanced))
                    self.assert_told(way, lows[:-1] + [1], True)

    def test_a_figure_beyond_a_bound(self):
        for way in ways_of(*ALL):
            for length in LENGTHS:
                row = [0] * (length - 1) + [1]
                self.assert_told(way, row, True)
                for place in {0, length // 2, length - 1}:
                    with self.subTest(way=told(way), length=length, place=place):
                        self.assert_beyond(way, row, place)

    def assert_beyond(self, way, row, place):
        low, high = way.low(place), way.high(place)
        for thing in (low - 1, low - 2, high + 1, high + 2, HUGE, -HUGE, VAST, -VAST):
            self.assert_told(way, row[:place] + [thing] + row[place + 1:], False)

    def test_every_writing_with_a_figure_put_out_is_none(self):
        chance = chance_of(8)
        for way in ways_of(*ALL):
            for length in LENGTHS:
                with self.subTest(way=told(way), length=length):
                    row = drawn_writing(way, length, chance)
                    self.assert_told(way, row, True)
                    place = chance.randrange(length)
                    for thing in (way.low(place) - 1, way.high(place) + 1):
                        self.assert_told(way, row[:place] + [thing] + row[place + 1:], False)

    def test_noughts_at_the_end(self):
        chance = chance_of(80)
        for way in ways_of(*ALL):
            for many in (1, 2, 300):
                with self.subTest(way=told(way), many=many):
                    self.assert_told(way, [0] * many, False)
                    for length in LENGTHS:
                        self.assert_told(way, drawn_writing(way, length, chance) + [0] * many, False)

    def test_noughts_ahead_and_between(self):
        for way in ways_of(*ALL):
            with self.subTest(way=told(way)):
                self.assert_told(way, [0, 0, 1], True)
                self.assert_told(way, [1, 0, 0, 1], True)

    def test_figures_grow_in_growing(self):
        for way in ways_of(Growing):
            for place in (0, 1, 2, 60, 299):
                with self.subTest(way=told(way), place=place):
                    self.assert_told(way, [0] * place + [way.first + place - 1], True)
                    self.assert_told(way, [0] * place + [way.first + place], False)

    def test_known_rows(self):
        known = (
            (Plain(10), [0, 1], True),
            (Plain(10), [10], False),
            (Plain(10), [-1, 1], False),
            (Below(2), [1, 1, 1], True),
            (Below(2), [2], False),
            (Balanced(1), [-1], True),
            (Balanced(1), [-2], False),
            (Growing(2), [1, 2, 3], True),
            (Growing(2), [2], False),
            (Growing(2), [1, 3], False),
            (Pairs(1), [0, 1, 1], True),
            (Pairs(3), [9], True),
            (Pairs(3), [10], False),
        )
        for way, row, wanted in known:
            with self.subTest(way=told(way), row=row):
                self.assert_told(way, row, wanted)


class MostsInFalling(ToldCase):
    def test_at_place_nought_nothing_is_beneath(self):
        for way in ways_of(Falling):
            with self.subTest(way=told(way)):
                self.assert_told(way, [way.most], True)
                self.assert_told(way, [way.most, 0, 1], True)
                self.assert_told(way, [way.most, 1], way.most > 1)

    def test_a_most_wants_a_nought_beneath(self):
        for way in ways_of(Falling):
            for length in (2, 3, 4, 41, 300):
                above = [0] * (length - 2)
                for beneath in list(range(way.most + 1)) + [-1, -HUGE, way.most + 1, HUGE]:
                    with self.subTest(way=told(way), length=length, beneath=beneath):
                        self.assert_told(way, above + [beneath, way.most], beneath == 0)
                        self.assert_told(way, [beneath, way.most] + above + [1], beneath == 0 and self.fits(way, above))

    def fits(self, way, above):
        # In Falling by 1 the 1 at the end is a most, too.
        return way.most > 1 or len(above) > 0

    def test_less_than_a_most_wants_none(self):
        for way in ways_of(Falling):
            with self.subTest(way=told(way)):
                self.assert_told(way, [way.most] + [way.most - 1] * 50, way.most > 1)

    def test_every_small_row(self):
        for way in [Falling(1), Falling(2), Falling(3)]:
            things = range(-1, way.most + 2)
            wanted = {tuple(row) for row in small_writings(way, 200)}
            for length in range(5):
                for row in itertools.product(things, repeat=length):
                    with self.subTest(way=told(way), row=row):
                        self.assert_told(way, list(row), row in wanted)


if __name__ == "__main__":
    unittest.main()
