"""[15] Sums, differences and products of writings; [3] (c) they are those of the numbers, whatever their length."""

import unittest

from oddbases.errors import NoWriting, TooLess
from oddbases.sums import minus, plus, times
from oddbases.ways import Balanced, Below, Falling, Growing, Pairs, Plain
from oddbases.writings import is_writing, written
from owned import OwnedCase
from refusals import RefusalCase
from samples import (
    ALL, FROM_NOUGHT_ON, chance_of, difference_by_hand, drawn_writing, no_writings, product_by_hand, small_writings,
    sum_by_hand, told, ways_of, worth_by_hand, writings_for,
)

LENGTHS = (0, 1, 2, 3, 5, 12, 24)
LONG = (41, 99, 100)


def is_below_nought(way, number):
    return isinstance(way, FROM_NOUGHT_ON) and number < 0


def pairs_of_rows(rows, chance):
    # Each row with itself, with the row of nothing, and with a row drawn.
    return [(row, other) for row in rows for other in (row, [], chance.choice(rows))]


class ReckonedCase(RefusalCase):
    def assert_answer(self, way, answer, number):
        self.assertIs(type(answer), list)
        self.assertTrue(is_writing(way, answer))
        self.assertEqual(worth_by_hand(way, answer), number)

    def assert_sum(self, way, one, other):
        number = sum_by_hand(worth_by_hand(way, one), worth_by_hand(way, other))
        answer = plus(way, one, other)
        self.assert_answer(way, answer, number)
        self.assertEqual(plus(way, other, one), answer)
        self.assertEqual(minus(way, answer, other), one)
        self.assertEqual(minus(way, answer, one), other)

    def assert_difference(self, way, one, other):
        number = difference_by_hand(worth_by_hand(way, one), worth_by_hand(way, other))
        if is_below_nought(way, number):
            self.assert_refused(TooLess, minus, way, one, other)
        else:
            answer = minus(way, one, other)
            self.assert_answer(way, answer, number)
            self.assertEqual(plus(way, answer, other), one)

    def assert_product(self, way, one, other):
        number = product_by_hand(worth_by_hand(way, one), worth_by_hand(way, other))
        answer = times(way, one, other)
        self.assert_answer(way, answer, number)
        self.assertEqual(times(way, other, one), answer)


class Reckoned(ReckonedCase):
    def test_known_ones(self):
        known = (
            (plus, Plain(10), [9, 9], [1], [0, 0, 1]),
            (plus, Plain(2), [1, 1], [1, 1], [0, 1, 1]),
            (plus, Below(10), [9], [1], [0, 9, 1]),
            (plus, Below(2), [1], [1], [0, 1, 1]),
            (plus, Below(2), [1], [1, 1], []),
            (plus, Balanced(1), [1], [1], [-1, 1]),
            (plus, Growing(2), [1, 2], [1], [0, 0, 1]),
            (plus, Falling(1), [1, 0, 1], [1], [0, 0, 0, 1]),
            (plus, Falling(2), [2, 1], [1], [0, 2]),
            (plus, Falling(9), [9, 8], [1], [0, 9]),
            (plus, Falling(9), [9, 8], [2], [0, 0, 1]),
            (plus, Pairs(1), [1], [1], [0, 0, 1, 1]),
            (minus, Plain(10), [0, 0, 1], [1], [9, 9]),
            (minus, Below(2), [], [1], [1, 1]),
            (minus, Balanced(1), [], [-1, 1], [1, -1]),
            (minus, Growing(2), [0, 0, 1], [1], [1, 2]),
            (minus, Falling(1), [0, 0, 0, 1], [1], [1, 0, 1]),
            (minus, Falling(2), [0, 0, 1], [2, 1], [2]),
            (minus, Pairs(1), [], [1], [1, 0, 1, 1, 1]),
            (times, Plain(10), [2, 1], [2, 1], [4, 4, 1]),
            (times, Below(10), [3, 1], [3, 1], [9, 6, 1]),
            (times, Balanced(1), [-1, 1], [-1, -1], [1, 0, -1]),
            (times, Growing(2), [1, 2], [1, 2], [1, 0, 0, 1]),
            (times, Falling(1), [1, 0, 1], [0, 0, 1], [1, 0, 1, 0, 1]),
            (times, Falling(2), [0, 1], [0, 1], [2, 0, 1]),
            (times, Pairs(1), [0, 1], [0, 1], [0, 0, 1]),
            (times, Pairs(1), [1, 1], [1, 1], [1, 0, 1, 1, 1]),
        )
        for asked, way, one, other, wanted in known:
            with self.subTest(asked=asked.__name__, way=told(way), one=one, other=other):
                self.assertEqual(asked(way, one, other), wanted)

    def test_every_two_small_writings(self):
        ways = [sort(number) for sort in (Plain, Below, Growing) for number in (2, 3)]
        ways += [sort(number) for sort in (Balanced, Falling, Pairs) for number in (1, 2)]
        for way in ways:
            rows = small_writings(way, 17)
            for one in rows:
                for other in rows:
                    with self.subTest(way=told(way), one=one, other=other):
                        self.assert_sum(way, one, other)
                        self.assert_difference(way, one, other)
                        self.assert_product(way, one, other)

    def test_sums_and_differences(self):
        chance = chance_of(15)
        for way in ways_of(*ALL):
            rows = writings_for(way, LENGTHS + LONG, chance)
            for one, other in pairs_of_rows(rows, chance):
                with self.subTest(way=told(way), one=one, other=other):
                    self.assert_sum(way, one, other)
                    self.assert_difference(way, one, other)
                    self.assert_difference(way, other, one)

    def test_products(self):
        chance = chance_of(150)
        for way in ways_of(*ALL):
            rows = writings_for(way, LENGTHS, chance)
            for one, other in pairs_of_rows(rows, chance):
                with self.subTest(way=told(way), one=one, other=other):
                    self.assert_product(way, one, other)

    def test_writings_of_three_hundred_figures(self):
        chance = chance_of(151)
        for way in [sort(number) for sort in ALL for number in (2, 9)]:
            with self.subTest(way=told(way)):
                one = drawn_writing(way, 300, chance)
                other = drawn_writing(way, 299, chance)
                self.assert_sum(way, one, other)
                self.assert_difference(way, one, other)
                self.assert_product(way, one, drawn_writing(way, 30, chance))

    def test_what_was_told_is_handed_in_again(self):
        chance = chance_of(152)
        for way in [sort(number) for sort in ALL for number in (2, 9)]:
            with self.subTest(way=told(way)):
                row = drawn_writing(way, 40, chance)
                while len(row) <= 300:
                    self.assert_product(way, row, row)
                    row = times(way, row, row)
                self.assert_sum(way, row, drawn_writing(way, 40, chance))

    def test_the_row_of_nothing_and_the_writing_of_1(self):
        chance = chance_of(153)
        for way in ways_of(*ALL):
            unit = written(way, (1, 0) if isinstance(way, Pairs) else 1)
            for row in writings_for(way, LENGTHS + LONG, chance):
                with self.subTest(way=told(way), row=row):
                    for answer in (plus(way, row, []), plus(way, [], row), minus(way, row, [])):
                        self.assertEqual(answer, row)
                    for answer in (times(way, row, []), times(way, [], row), minus(way, row, row)):
                        self.assertEqual(answer, [])
                    self.assertEqual(times(way, row, unit), row)
                    self.assertEqual(times(way, unit, row), row)

    def test_a_product_of_sums(self):
        chance = chance_of(154)
        for way in ways_of(*ALL):
            one, other, third = [drawn_writing(way, places, chance) for places in (9, 6, 11)]
            with self.subTest(way=told(way), one=one, other=other, third=third):
                apart = plus(way, times(way, one, third), times(way, other, third))
                self.assertEqual(times(way, plus(way, one, other), third), apart)


class RefusedReckoning(ReckonedCase):
    def test_a_difference_below_nought(self):
        chance = chance_of(155)
        for way in ways_of(*ALL):
            for row in writings_for(way, (1, 2, 3, 40, 100), chance):
                more = plus(way, row, [1])
                for one, other in ((row, more), ([], row or [1]), ([], more)):
                    with self.subTest(way=told(way), one=one, other=other):
                        self.assert_less_refused_where_due(way, one, other)

    def assert_less_refused_where_due(self, way, one, other):
        if isinstance(way, FROM_NOUGHT_ON):
            self.assert_refused(TooLess, minus, way, one, other)
        else:
            self.assert_difference(way, one, other)

    def test_a_difference_of_two_that_part_at_one_place(self):
        chance = chance_of(156)
        for way in ways_of(*FROM_NOUGHT_ON):
            for place in (1, 2, 3, 4, 20, 97):
                less = drawn_writing(way, 100, chance)
                # With 0s on both sides there is room for a 1, in Falling too.
                less[place - 1:place + 2] = [0, 0, 0]
                more = list(less)
                more[place] = 1
                with self.subTest(way=told(way), place=place):
                    self.assertEqual(minus(way, more, less), [0] * place + [1])
                    self.assert_refused(TooLess, minus, way, less, more)

    def test_what_is_no_writing(self):
        chance = chance_of(157)
        for way in ways_of(*ALL):
            for places in (1, 2, 5, 100):
                right = drawn_writing(way, places, chance)
                for wrong in no_writings(way, places, chance):
                    for one, other in ((wrong, right), (right, wrong), (wrong, wrong), ([], wrong), (wrong, [])):
                        with self.subTest(way=told(way), one=one, other=other):
                            for asked in (plus, minus, times):
                                self.assert_refused(NoWriting, asked, way, one, other)

    def test_what_is_right_is_answered_behind_a_refusal_as_ahead_of_it(self):
        chance = chance_of(158)
        for way in ways_of(*ALL):
            with self.subTest(way=told(way)):
                one = drawn_writing(way, 20, chance)
                other = drawn_writing(way, 19, chance)
                ahead = [asked(way, one, other) for asked in (plus, times)] + [minus(way, one, one)]
                for asked in (plus, minus, times):
                    self.assert_refused(NoWriting, asked, way, one, other + [0])
                self.assert_less_refused_where_due(way, other, plus(way, other, [1]))
                behind = [asked(way, one, other) for asked in (plus, times)] + [minus(way, one, one)]
                self.assertEqual(behind, ahead)


class OwnedReckoning(OwnedCase):
    def test_the_rows_stay_and_the_list_told_is_the_askers_own(self):
        chance = chance_of(159)
        for way in ways_of(*ALL):
            for row in writings_for(way, (0, 1, 2, 20), chance):
                for asked, one, other in (
                    (plus, row, []), (plus, [], row), (plus, row, row[:]), (minus, row, []), (minus, row, row[:]),
                    (times, row, []), (times, row, [1]), (times, [1], row), (times, row, row[:]),
                ):
                    with self.subTest(asked=asked.__name__, way=told(way), one=one, other=other):
                        self.assert_owned(asked, way, list(one), list(other))

    def test_one_list_handed_in_twice(self):
        for way in ways_of(*ALL):
            for asked in (plus, minus, times):
                with self.subTest(asked=asked.__name__, way=told(way)):
                    row = [1, 0, 1]
                    self.assertEqual(asked(way, row, row), asked(way, [1, 0, 1], [1, 0, 1]))
                    self.assertEqual(row, [1, 0, 1])

    def test_the_rows_stay_behind_a_refusal(self):
        for way in ways_of(*ALL):
            for asked in (plus, minus, times):
                for one, other in (([1, 0], [1]), ([1], [0, 1, 0]), ([1], [0, 0, 1]), ([1, 0, 1], [0, 0, 0, 1])):
                    with self.subTest(asked=asked.__name__, way=told(way), one=one, other=other):
                        handed = (list(one), list(other))
                        try:
                            asked(way, *handed)
                        except (NoWriting, TooLess):
                            pass
                        self.assertEqual(handed, (one, other))


if __name__ == "__main__":
    unittest.main()
