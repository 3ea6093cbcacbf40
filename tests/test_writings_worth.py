"""[9] The worth of a row."""

import unittest

from oddbases.ways import Balanced, Below, Falling, Growing, Pairs, Plain
from oddbases.writings import worth, written
from samples import ALL, HUGE, VAST, chance_of, drawn_thing, told, ways_of, worth_by_hand


class Worth(unittest.TestCase):
    def assert_worth(self, way, row, wanted):
        handed = list(row)
        answer = worth(way, handed)
        self.assertEqual(answer, wanted)
        self.assertEqual(handed, row)
        if isinstance(way, Pairs):
            self.assertEqual([type(answer)] + [type(thing) for thing in answer], [tuple, int, int])
        else:
            self.assertIs(type(answer), int)

    def test_known_worths(self):
        known = (
            (Plain(10), [3, 2, 1], 123),
            (Plain(2), [-1, 5, -HUGE], 9 - 4 * HUGE),
            (Below(10), [7, 1], -3),
            (Below(2), [0, 0, 0, 1], -8),
            (Balanced(1), [-1, 1], 2),
            (Balanced(30), [-30, -30], -1860),
            (Growing(2), [1, 2, 3], 23),
            (Growing(10), [0, 0, 0, -1], -1320),
            (Falling(1), [1, 0, 1, 0, 1], 12),
            (Falling(9), [9, -3, 2], 161),
            (Pairs(1), [0, 1, 1], (-1, -1)),
            (Pairs(3), [1, -2, 100], (807, -602)),
        )
        for way, row, wanted in known:
            with self.subTest(way=told(way), row=row):
                self.assert_worth(way, row, wanted)

    def test_the_row_of_nothing_and_rows_of_noughts(self):
        for way in ways_of(*ALL):
            nought = (0, 0) if isinstance(way, Pairs) else 0
            for many in (0, 1, 2, 300):
                with self.subTest(way=told(way), many=many):
                    self.assert_worth(way, [0] * many, nought)

    def test_one_thing_at_a_place(self):
        for way in ways_of(*ALL):
            for place in (0, 1, 2, 3, 77, 299):
                for thing in (1, -1, 61, -3601, HUGE, -HUGE, VAST, -VAST):
                    with self.subTest(way=told(way), place=place, thing=thing):
                        row = [0] * place + [thing]
                        self.assert_worth(way, row, worth_by_hand(way, row))

    def test_rows_of_any_things(self):
        chance = chance_of(9)
        for way in ways_of(*ALL):
            for length in (1, 2, 3, 4, 5, 9, 40, 300):
                for figures in (1, 45, 299):
                    with self.subTest(way=told(way), length=length, figures=figures):
                        row = [drawn_thing(chance, figures) for place in range(length)]
                        self.assert_worth(way, row, worth_by_hand(way, row))
                        self.assert_worth(way, row + [0, 0], worth_by_hand(way, row))

    def test_a_row_that_was_told_however_long(self):
        for way in (Plain(2), Below(2), Balanced(1), Growing(2), Falling(1)):
            with self.subTest(way=told(way)):
                number = VAST ** 8
                self.assert_worth(way, written(way, number), number)
        self.assert_worth(Pairs(1), written(Pairs(1), (VAST ** 4, -VAST)), (VAST ** 4, -VAST))


if __name__ == "__main__":
    unittest.main()
