"""[10] The writing of a number; [6] which numbers are written; [3] (a) each has just one writing."""

import unittest

from oddbases.errors import NoNumber
from oddbases.ways import Balanced, Below, Falling, Growing, Pairs, Plain
from oddbases.writings import is_writing, worth, written
from refusals import RefusalCase
from samples import (
    ALL, FROM_NOUGHT_ON, HUGE, VAST, chance_of, drawn_thing, drawn_writing, small_writings, told, ways_of,
)

PLACES = (1, 2, 3, 4, 10, 41, 150, 299)
WHOLES = tuple(range(131)) + (3599, 3600, 3601, 10 ** 40, HUGE, HUGE + 1, VAST - 1, VAST)
THINGS = tuple(range(-6, 7)) + (HUGE, -HUGE, VAST, -VAST)


def numbers_for(way):
    weights = [way.weight(place) for place in PLACES]
    if isinstance(way, Pairs):
        beside = [(a + c, b + d) for a, b in weights for c, d in ((0, 0), (1, 0), (-1, 0), (0, 1), (0, -1))]
        return beside + [(one, other) for one in THINGS for other in THINGS]
    numbers = list(WHOLES) + [weight + more for weight in weights for more in (-1, 0, 1)]
    if isinstance(way, (Below, Balanced)):
        return numbers + [-number for number in numbers]
    return numbers


class Written(RefusalCase):
    def test_known_writings(self):
        known = (
            (Plain(10), 123, [3, 2, 1]),
            (Plain(2), 8, [0, 0, 0, 1]),
            (Plain(60), 3599, [59, 59]),
            (Below(10), -7, [3, 1]),
            (Below(10), 12, [2, 9, 1]),
            (Below(2), 2, [0, 1, 1]),
            (Below(2), -1, [1, 1]),
            (Balanced(1), 2, [-1, 1]),
            (Balanced(1), -5, [1, 1, -1]),
            (Balanced(30), 31, [-30, 1]),
            (Growing(2), 23, [1, 2, 3]),
            (Growing(2), 24, [0, 0, 0, 1]),
            (Growing(10), 110, [0, 0, 1]),
            (Falling(1), 4, [1, 0, 1]),
            (Falling(1), 12, [1, 0, 1, 0, 1]),
            (Falling(2), 6, [0, 2]),
            (Falling(2), 5, [2, 1]),
            (Falling(9), 90, [0, 9]),
            (Falling(9), 89, [9, 8]),
            (Pairs(1), (2, 0), [0, 0, 1, 1]),
            (Pairs(1), (-1, 0), [1, 0, 1, 1, 1]),
            (Pairs(1), (0, 1), [1, 1]),
            (Pairs(3), (0, 1), [3, 1]),
            (Pairs(3), (9, 0), [9]),
        )
        for way, number, wanted in known:
            with self.subTest(way=told(way), number=number):
                self.assertEqual(written(way, number), wanted)

    def test_it_is_a_writing_of_the_number(self):
        for way in ways_of(*ALL):
            for number in numbers_for(way):
                with self.subTest(way=told(way), number=number):
                    row = written(way, number)
                    self.assertIs(type(row), list)
                    self.assertTrue(is_writing(way, row))
                    self.assertEqual(worth(way, row), number)

    def test_nought_is_the_row_of_nothing(self):
        for way in ways_of(*ALL):
            with self.subTest(way=told(way)):
                self.assertEqual(written(way, (0, 0) if isinstance(way, Pairs) else 0), [])

    def test_a_list_told_is_the_askers_own(self):
        for way in ways_of(*ALL):
            for number in numbers_for(way)[::7] + [(0, 0) if isinstance(way, Pairs) else 0]:
                with self.subTest(way=told(way), number=number):
                    row = written(way, number)
                    wanted = list(row)
                    other = written(way, number)
                    row.append(1)
                    row[0] = HUGE
                    self.assertEqual(other, wanted)
                    self.assertEqual(written(way, number), wanted)


class OneWriting(unittest.TestCase):
    def test_the_worth_of_a_writing_is_written_as_that_very_one(self):
        chance = chance_of(3)
        for way in ways_of(*ALL):
            rows = small_writings(way, 300)
            rows += [drawn_writing(way, places, chance) for places in (3, 7, 20, 99, 300)]
            for row in rows:
                with self.subTest(way=told(way), row=row):
                    self.assertEqual(written(way, worth(way, row)), row)

    def test_the_small_writings_have_each_number_once(self):
        for way in ways_of(Plain, Below, Balanced, Growing, Falling):
            with self.subTest(way=told(way)):
                worths = sorted(worth(way, row) for row in small_writings(way, 300))
                self.assertEqual(worths, list(range(worths[0], worths[-1] + 1)))
                self.assertIn(0, worths)

    def test_the_small_writings_have_no_pair_twice(self):
        for way in ways_of(Pairs):
            with self.subTest(way=told(way)):
                worths = [worth(way, row) for row in small_writings(way, 300)]
                self.assertEqual(len(set(worths)), len(worths))


class NumbersThatAWayHasNot(RefusalCase):
    def assert_no_number(self, way, number):
        with self.subTest(way=told(way), number=number):
            self.assert_refused(NoNumber, written, way, number)

    def test_below_nought(self):
        for way in ways_of(*FROM_NOUGHT_ON):
            for number in (-1, -2, -61, -10 ** 40, -HUGE, -VAST):
                self.assert_no_number(way, number)

    def test_a_pair_where_whole_numbers_are_wanted(self):
        for way in ways_of(Plain, Below, Balanced, Growing, Falling):
            for pair in ((0, 0), (1, 0), (0, 1), (-1, 0), (5, -7), (HUGE, 0), (-VAST, VAST)):
                self.assert_no_number(way, pair)

    def test_a_whole_number_in_pairs(self):
        for way in ways_of(Pairs):
            for number in (0, 1, -1, 9, 82, HUGE, -VAST):
                self.assert_no_number(way, number)

    def test_what_is_right_is_answered_behind_a_refusal_as_ahead_of_it(self):
        chance = chance_of(10)
        for way in ways_of(*ALL):
            with self.subTest(way=told(way)):
                pairs = isinstance(way, Pairs)
                number = abs(drawn_thing(chance, 50))
                ahead = written(way, (number, 3) if pairs else number)
                self.assert_refused(NoNumber, written, way, number if pairs else (number, 3))
                self.assertEqual(written(way, (number, 3) if pairs else number), ahead)


if __name__ == "__main__":
    unittest.main()
