"""[22] Writings moved from way to way; [3] (f) in whatever round, a number comes back to the same writing."""

import unittest

from oddbases.errors import NoNumber, NoWriting
from oddbases.moving import moved
from oddbases.ways import Balanced, Below, Falling, Growing, Pairs, Plain
from oddbases.writings import is_writing, written
from owned import OwnedCase
from refusals import RefusalCase
from samples import (
    ALL, FROM_NOUGHT_ON, HUGE, OF_WHOLES, SORTS, VAST, chance_of, no_writings, told, ways_of, worth_by_hand,
    writings_for,
)

# Each sort at both bounds and between: each of them is moved to each.
ENDS = tuple(sort(number) for sort, name, least, most in SORTS for number in (least, (least + most) // 3, most))


def as_pair(number):
    return number if isinstance(number, tuple) else (number, 0)


def has_by_hand(way, number):
    first, second = as_pair(number)
    if isinstance(way, Pairs):
        return True
    return second == 0 and (first >= 0 or not isinstance(way, FROM_NOUGHT_ON))


def numbers_for(way):
    wholes = [0, 1, 2, 61, 10 ** 30 + 3, HUGE, VAST]
    if not isinstance(way, FROM_NOUGHT_ON):
        wholes += [-number for number in wholes[1:]]
    if isinstance(way, Pairs):
        return [(whole, 0) for whole in wholes] + [(0, 1), (0, -1), (5, -7), (-HUGE, HUGE), (1, VAST)]
    return wholes


class Moved(RefusalCase):
    def test_known_ones(self):
        known = (
            (Plain(10), [2, 1], Plain(2), [0, 0, 1, 1]),
            (Plain(10), [2, 1], Falling(1), [1, 0, 1, 0, 1]),
            (Plain(2), [0, 1], Pairs(1), [0, 0, 1, 1]),
            (Pairs(1), [0, 0, 1, 1], Plain(10), [2]),
            (Pairs(1), [1, 0, 1, 1, 1], Balanced(1), [-1]),
            (Pairs(1), [1, 0, 1, 1, 1], Below(2), [1, 1]),
            (Pairs(1), [1, 1], Pairs(3), [3, 1]),
            (Below(10), [3, 1], Balanced(1), [-1, 1, -1]),
            (Growing(2), [1, 2, 3], Plain(10), [3, 2]),
        )
        for way, row, other, wanted in known:
            with self.subTest(way=told(way), row=row, other=told(other)):
                self.assertEqual(moved(way, row, other), wanted)
                self.assertEqual(moved(other, wanted, way), row)

    def assert_moved(self, way, row, other):
        number = worth_by_hand(way, row)
        if not has_by_hand(other, number):
            self.assert_refused(NoNumber, moved, way, row, other)
            return
        answer = moved(way, row, other)
        self.assertIs(type(answer), list)
        self.assertTrue(is_writing(other, answer))
        self.assertEqual(as_pair(worth_by_hand(other, answer)), as_pair(number))
        self.assertEqual(moved(other, answer, way), row)

    def test_between_any_two_ways(self):
        chance = chance_of(22)
        for way in ENDS:
            for row in writings_for(way, (0, 1, 2, 7, 30), chance):
                for other in chance.sample(ENDS, 6):
                    with self.subTest(way=told(way), row=row, other=told(other)):
                        self.assert_moved(way, row, other)

    def test_numbers_that_some_ways_have(self):
        for way in ENDS:
            for number in numbers_for(way):
                row = written(way, number)
                for other in ENDS:
                    with self.subTest(way=told(way), number=number, other=told(other)):
                        self.assert_moved(way, row, other)

    def test_to_the_same_object(self):
        chance = chance_of(220)
        for way in ways_of(*ALL):
            for row in writings_for(way, (0, 1, 2, 60), chance):
                with self.subTest(way=told(way), row=row):
                    self.assertEqual(moved(way, row, way), row)

    def test_a_round_of_several_ways(self):
        chance = chance_of(221)
        for way in ENDS:
            for number in numbers_for(way):
                row = written(way, number)
                if has_by_hand(Plain(2), number):
                    fit = ENDS
                elif has_by_hand(Below(2), number):
                    fit = tuple(other for other in ENDS if isinstance(other, (Below, Balanced, Pairs)))
                else:
                    fit = tuple(other for other in ENDS if isinstance(other, Pairs))
                ways = [way] + [chance.choice(fit) for often in range(7)] + [way]
                with self.subTest(number=number, ways=[told(other) for other in ways]):
                    left = row
                    for one, other in zip(ways, ways[1:]):
                        left = moved(one, left, other)
                    self.assertEqual(left, row)


class RefusedMoving(RefusalCase):
    def test_what_is_no_writing_whatever_the_other_way(self):
        chance = chance_of(222)
        for way in ENDS:
            for places in (1, 2, 30):
                for row in no_writings(way, places, chance):
                    for other in [way] + chance.sample(ENDS, 3):
                        with self.subTest(way=told(way), row=row, other=told(other)):
                            self.assert_refused(NoWriting, moved, way, row, other)

    def test_below_nought(self):
        for way in ways_of(Below, Balanced, Pairs):
            for number in (-1, -7, -HUGE, -VAST):
                row = written(way, (number, 0) if isinstance(way, Pairs) else number)
                for other in ways_of(*FROM_NOUGHT_ON):
                    with self.subTest(way=told(way), number=number, other=told(other)):
                        self.assert_refused(NoNumber, moved, way, row, other)

    def test_a_pair_that_is_no_whole_number(self):
        for way in ways_of(Pairs):
            for pair in ((0, 1), (0, -1), (3, 1), (-3, 2), (HUGE, -VAST)):
                row = written(way, pair)
                for other in ways_of(*OF_WHOLES):
                    with self.subTest(way=told(way), pair=pair, other=told(other)):
                        self.assert_refused(NoNumber, moved, way, row, other)

    def test_what_is_right_is_answered_behind_a_refusal_as_ahead_of_it(self):
        for way in ways_of(Below, Balanced):
            with self.subTest(way=told(way)):
                row = written(way, HUGE)
                ahead = moved(way, row, Falling(1))
                self.assert_refused(NoNumber, moved, way, written(way, -HUGE), Falling(1))
                self.assert_refused(NoWriting, moved, way, row + [0], Falling(1))
                self.assertEqual(moved(way, row, Falling(1)), ahead)


class OwnedMoving(OwnedCase):
    def test_the_row_stays_and_the_list_told_is_the_askers_own(self):
        for way in ENDS:
            for row in ([], [1], [1, 0, 1]):
                for other in (way, Pairs(2), Pairs(9)):
                    with self.subTest(way=told(way), row=row, other=told(other)):
                        self.assert_owned(moved, way, list(row), other)

    def test_the_row_stays_behind_a_refusal(self):
        for way in ways_of(Pairs):
            for row in ([1, 0], [1, 1]):
                handed = list(row)
                with self.subTest(way=told(way), row=row), self.assertRaises((NoWriting, NoNumber)):
                    moved(way, handed, Plain(2))
                self.assertEqual(handed, row)


if __name__ == "__main__":
    unittest.main()
