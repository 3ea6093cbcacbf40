"""[16] A writing shared out by a whole number; [3] (c) the share is that of the number, for writings of any length."""

import unittest

from oddbases.errors import NoPairs, NoWriting, Nought
from oddbases.shares import shared
from oddbases.ways import Balanced, Below, Falling, Growing, Pairs, Plain
from oddbases.writings import is_writing, written
from owned import OwnedCase
from refusals import RefusalCase
from samples import (
    HUGE, OF_WHOLES, VAST, chance_of, drawn_writing, no_writings, small_writings, told, ways_of, worth_by_hand,
    writings_for,
)

SIXTY_FIGURES = (10 ** 59, 10 ** 60 - 1, 123456789 * 10 ** 51 + 7)
# What is below 1, small and large.
NONE_TO_SHARE = (0, -1, -2, -99, -HUGE, -VAST)


class SharedCase(RefusalCase):
    def assert_shared(self, way, row, many):
        answer = shared(way, row, many)
        self.assertIs(type(answer), tuple)
        self.assertEqual([type(thing) for thing in answer], [list, int])
        quotient, rest = answer
        self.assertTrue(is_writing(way, quotient))
        self.assertTrue(0 <= rest < many)
        self.assertEqual(many * worth_by_hand(way, quotient) + rest, worth_by_hand(way, row))


class Shared(SharedCase):
    def test_known_ones(self):
        known = (
            (Plain(10), [7, 2, 1], 10, ([2, 1], 7)),
            (Plain(10), [0, 0, 1], 7, ([4, 1], 2)),
            (Plain(2), [1, 1, 1], 2, ([1, 1], 1)),
            (Below(10), [3, 1], 3, ([7, 1], 2)),
            (Balanced(1), [-1, 1, -1], 3, ([0, -1], 2)),
            (Growing(2), [1, 2, 3], 5, ([0, 2], 3)),
            (Falling(1), [1, 0, 1, 0, 1], 5, ([0, 1], 2)),
            (Falling(2), [2, 1], 2, ([2], 1)),
            (Falling(9), [0, 0, 1], 2, ([5, 4], 1)),
        )
        for way, row, many, wanted in known:
            with self.subTest(way=told(way), row=row, many=many):
                self.assertEqual(shared(way, row, many), wanted)

    def test_seven_below_nought_by_three(self):
        for way in ways_of(Below, Balanced):
            with self.subTest(way=told(way)):
                self.assertEqual(shared(way, written(way, -7), 3), (written(way, -3), 2))
                self.assertEqual(shared(way, written(way, -6), 3), (written(way, -2), 0))
                self.assertEqual(shared(way, written(way, -1), HUGE), (written(way, -1), HUGE - 1))

    def test_small_writings_by_small_numbers(self):
        for way in (Plain(2), Plain(3), Below(2), Below(3), Balanced(1), Balanced(2), Growing(2), Growing(3),
                    Falling(1), Falling(2), Falling(3)):
            for row in small_writings(way, 60):
                for many in range(1, 14):
                    with self.subTest(way=told(way), row=row, many=many):
                        self.assert_shared(way, row, many)

    def test_numbers_up_to_99(self):
        chance = chance_of(16)
        for way in ways_of(*OF_WHOLES):
            rows = writings_for(way, (0, 1, 2, 3, 9, 40), chance)
            for many in range(1, 100):
                row = rows[many % len(rows)]
                with self.subTest(way=told(way), row=row, many=many):
                    self.assert_shared(way, row, many)

    def test_long_writings_by_large_numbers(self):
        chance = chance_of(160)
        for way in ways_of(*OF_WHOLES):
            for row in writings_for(way, (1, 30, 100), chance) + [drawn_writing(way, 300, chance)]:
                for many in (1, 2, 99) + SIXTY_FIGURES + (VAST,):
                    with self.subTest(way=told(way), row=row, many=many):
                        self.assert_shared(way, row, many)

    def test_by_its_own_number_and_one_more(self):
        chance = chance_of(161)
        for way in ways_of(*OF_WHOLES):
            for places in (1, 2, 3, 10, 60):
                row = drawn_writing(way, places, chance)
                number = worth_by_hand(way, row)
                many = abs(number)
                with self.subTest(way=told(way), row=row):
                    if number > 0:
                        self.assertEqual(shared(way, row, many), ([1], 0))
                        self.assertEqual(shared(way, row, many + 1), ([], many))
                    else:
                        self.assertEqual(shared(way, row, many), (written(way, -1), 0))
                        self.assertEqual(shared(way, row, many + 1), (written(way, -1), 1))

    def test_by_one_and_of_nothing(self):
        chance = chance_of(162)
        for way in ways_of(*OF_WHOLES):
            for row in writings_for(way, (0, 1, 2, 50), chance):
                with self.subTest(way=told(way), row=row):
                    self.assertEqual(shared(way, row, 1), (row, 0))
            for many in (1, 2, 60, HUGE):
                self.assertEqual(shared(way, [], many), ([], 0))


class RefusedSharing(SharedCase):
    def test_pairs_are_not_shared_out(self):
        chance = chance_of(163)
        for way in ways_of(Pairs):
            rows = [[], [1], drawn_writing(way, 20, chance)] + no_writings(way, 3, chance)
            for row in rows:
                for many in (1, 2, HUGE) + NONE_TO_SHARE:
                    with self.subTest(way=told(way), row=row, many=many):
                        self.assert_refused(NoPairs, shared, way, row, many)

    def test_what_is_no_writing(self):
        chance = chance_of(164)
        for way in ways_of(*OF_WHOLES):
            for places in (1, 2, 5, 100):
                for row in no_writings(way, places, chance):
                    for many in (1, 7, HUGE) + NONE_TO_SHARE:
                        with self.subTest(way=told(way), row=row, many=many):
                            self.assert_refused(NoWriting, shared, way, row, many)

    def test_a_number_below_1(self):
        chance = chance_of(165)
        for way in ways_of(*OF_WHOLES):
            for row in writings_for(way, (0, 1, 2, 30), chance):
                for many in NONE_TO_SHARE:
                    with self.subTest(way=told(way), row=row, many=many):
                        self.assert_refused(Nought, shared, way, row, many)

    def test_what_is_right_is_answered_behind_a_refusal_as_ahead_of_it(self):
        chance = chance_of(166)
        for way in ways_of(*OF_WHOLES):
            with self.subTest(way=told(way)):
                row = drawn_writing(way, 20, chance)
                ahead = shared(way, row, 7)
                self.assert_refused(Nought, shared, way, row, 0)
                self.assert_refused(NoWriting, shared, way, row + [0], 7)
                self.assert_refused(NoPairs, shared, Pairs(3), row, 7)
                self.assertEqual(shared(way, row, 7), ahead)


class OwnedShares(OwnedCase):
    def test_the_row_stays_and_the_list_told_is_the_askers_own(self):
        chance = chance_of(167)
        for way in ways_of(*OF_WHOLES):
            for row in writings_for(way, (0, 1, 2, 20), chance):
                for many in (1, 2, 61, HUGE):
                    with self.subTest(way=told(way), row=row, many=many):
                        self.assert_owned(shared, way, list(row), many)

    def test_the_row_stays_behind_a_refusal(self):
        for way in ways_of(*OF_WHOLES, Pairs):
            for row, many in (([1, 0], 3), ([1], 0)):
                with self.subTest(way=told(way), row=row, many=many):
                    handed = list(row)
                    with self.assertRaises((NoPairs, NoWriting, Nought)):
                        shared(way, handed, many)
                    self.assertEqual(handed, row)


if __name__ == "__main__":
    unittest.main()
