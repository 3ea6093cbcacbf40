"""[17] Two writings held against each other; [18] where two rows part; [3] (d) both are told by the figures alone."""

import unittest

from oddbases.errors import NoPairs, NoWriting
from oddbases.orders import order, parting
from oddbases.ways import Balanced, Below, Falling, Growing, Pairs, Plain
from oddbases.writings import is_writing
from owned import OwnedCase
from refusals import RefusalCase
from samples import (
    ALL, HUGE, OF_WHOLES, VAST, chance_of, drawn_thing, drawn_writing, no_writings, small_writings, told, ways_of,
    without_end_noughts, worth_by_hand, writings_for,
)


def order_by_hand(one, other):
    return (one > other) - (one < other)


def differing_in_one_figure(way, row, chance):
    # The writings that come of this one by another figure at one place.
    rows = []
    for place in sorted({0, 1, len(row) // 2, len(row) - 2, len(row) - 1} & set(range(len(row)))):
        for figure in {way.low(place), 0, 1, chance.randint(way.low(place), way.high(place)), way.high(place)}:
            other = without_end_noughts(row[:place] + [figure] + row[place + 1:])
            if is_writing(way, other):
                rows.append(other)
    return rows


def parting_by_hand(one, other):
    length = max(len(one), len(other))
    one = one + [0] * (length - len(one))
    other = other + [0] * (length - len(other))
    return max((place for place in range(length) if one[place] != other[place]), default=None)


class Order(RefusalCase):
    def assert_order(self, way, one, other):
        wanted = order_by_hand(worth_by_hand(way, one), worth_by_hand(way, other))
        for answer, right in ((order(way, one, other), wanted), (order(way, other, one), -wanted)):
            self.assertIs(type(answer), int)
            self.assertEqual(answer, right)

    def test_known_ones(self):
        known = (
            (Plain(10), [9, 1], [0, 2], -1),
            (Plain(10), [1], [], 1),
            (Below(10), [9], [0, 1], 1),
            (Below(10), [0, 1], [0, 2], 1),
            (Below(10), [0, 0, 1], [9], 1),
            (Below(2), [1, 1], [], -1),
            (Balanced(1), [1, -1], [-1], -1),
            (Balanced(1), [-1, 1], [1], 1),
            (Growing(2), [1, 2], [0, 0, 1], -1),
            (Falling(1), [1, 0, 1], [0, 0, 0, 1], -1),
            (Falling(3), [0, 3], [3, 2], 1),
            (Falling(3), [2, 1], [2, 1], 0),
        )
        for way, one, other, wanted in known:
            with self.subTest(way=told(way), one=one, other=other):
                self.assertEqual(order(way, one, other), wanted)
                self.assertEqual(order(way, other, one), -wanted)

    def test_every_two_small_writings(self):
        for way in (Plain(2), Plain(3), Below(2), Below(3), Balanced(1), Balanced(2), Growing(2), Growing(3),
                    Falling(1), Falling(2), Falling(3)):
            rows = small_writings(way, 50)
            for one in rows:
                for other in rows:
                    with self.subTest(way=told(way), one=one, other=other):
                        self.assert_order(way, one, other)

    def test_writings_that_differ_in_one_figure(self):
        chance = chance_of(17)
        for way in ways_of(*OF_WHOLES):
            for row in writings_for(way, (1, 2, 3, 4, 41, 100), chance):
                for other in differing_in_one_figure(way, row, chance):
                    with self.subTest(way=told(way), one=row, other=other):
                        self.assert_order(way, row, other)

    def test_writings_that_differ_in_length(self):
        chance = chance_of(170)
        for way in ways_of(*OF_WHOLES):
            rows = writings_for(way, (0, 1, 2, 3, 50, 51, 300), chance)
            for one in rows:
                for other in chance.sample(rows, 6):
                    with self.subTest(way=told(way), one=one, other=other):
                        self.assert_order(way, one, other)

    def test_a_writing_and_itself(self):
        chance = chance_of(171)
        for way in ways_of(*OF_WHOLES):
            for row in writings_for(way, (0, 1, 2, 99), chance):
                with self.subTest(way=told(way), row=row):
                    self.assertEqual(order(way, row, row), 0)
                    self.assertEqual(order(way, row, list(row)), 0)

    def test_beside_nought(self):
        chance = chance_of(172)
        for way in ways_of(*OF_WHOLES):
            for row in writings_for(way, (1, 2, 3, 30, 31), chance):
                with self.subTest(way=told(way), row=row):
                    self.assertEqual(order(way, row, []), order_by_hand(worth_by_hand(way, row), 0))


class Parting(unittest.TestCase):
    def assert_parting(self, one, other):
        with self.subTest(one=one, other=other):
            wanted = parting_by_hand(one, other)
            for answer in (parting(one, other), parting(other, one)):
                self.assertEqual(answer, wanted)
                self.assertIs(type(answer), type(wanted))

    def test_known_ones(self):
        known = (
            ([], [], None),
            ([0], [], None),
            ([0, 0, 0], [0], None),
            ([1], [], 0),
            ([1, 2, 3], [1, 2, 3, 0, 0], None),
            ([1, 2, 3], [9, 2, 3], 0),
            ([1, 2, 3], [1, 9, 3, 0], 1),
            ([1, 2, 3], [9, 9, 9], 2),
            ([5], [5, 0, 0, -1], 3),
            ([HUGE, -VAST], [HUGE, VAST], 1),
        )
        for one, other, wanted in known:
            with self.subTest(one=one, other=other):
                self.assertEqual(parting(one, other), wanted)
                self.assertEqual(parting(other, one), wanted)

    def test_any_two_rows(self):
        chance = chance_of(18)
        for length in (0, 1, 2, 3, 10, 100, 300):
            for often in range(30):
                one = [drawn_thing(chance, chance.choice((1, 40))) for place in range(length)]
                other = list(one)
                for change in range(chance.randint(0, min(length, 3))):
                    other[chance.randrange(length)] += chance.choice((-1, 1, HUGE))
                cut = chance.randint(0, length)
                for changed in (other, other + [0] * 3, other[:cut], other[:cut] + [0] * (length - cut), other + [-1]):
                    self.assert_parting(one, changed)

    def test_the_greater_figure_there_makes_the_greater_number_but_in_below_at_odd_places(self):
        chance = chance_of(180)
        for way in ways_of(*OF_WHOLES):
            rows = writings_for(way, (0, 1, 2, 3, 4, 20, 21), chance)
            for one in rows:
                for other in rows:
                    place = parting(one, other)
                    if place is not None:
                        with self.subTest(way=told(way), one=one, other=other):
                            self.assert_greater_there(way, one, other, place)

    def assert_greater_there(self, way, one, other, place):
        padded = [(row + [0] * (place + 1))[place] for row in (one, other)]
        is_more = padded[0] > padded[1]
        if isinstance(way, Below) and place % 2 == 1:
            is_more = not is_more
        self.assertEqual(worth_by_hand(way, one) > worth_by_hand(way, other), is_more)
        self.assertEqual(order(way, one, other), 1 if is_more else -1)


class RefusedOrder(RefusalCase):
    def test_pairs_have_no_order(self):
        chance = chance_of(173)
        for way in ways_of(Pairs):
            rows = [[], [1], drawn_writing(way, 20, chance)] + no_writings(way, 3, chance)
            for one in rows:
                for other in rows:
                    with self.subTest(way=told(way), one=one, other=other):
                        self.assert_refused(NoPairs, order, way, one, other)

    def test_what_is_no_writing(self):
        chance = chance_of(174)
        for way in ways_of(*OF_WHOLES):
            for places in (1, 2, 5, 100):
                right = drawn_writing(way, places, chance)
                for wrong in no_writings(way, places, chance):
                    for one, other in ((wrong, right), (right, wrong), (wrong, wrong), ([], wrong), (wrong, [])):
                        with self.subTest(way=told(way), one=one, other=other):
                            self.assert_refused(NoWriting, order, way, one, other)

    def test_what_is_right_is_answered_behind_a_refusal_as_ahead_of_it(self):
        chance = chance_of(175)
        for way in ways_of(*OF_WHOLES):
            with self.subTest(way=told(way)):
                one = drawn_writing(way, 20, chance)
                other = drawn_writing(way, 20, chance)
                ahead = order(way, one, other)
                self.assert_refused(NoWriting, order, way, one, other + [0])
                self.assert_refused(NoPairs, order, Pairs(3), one, other)
                self.assertEqual(order(way, one, other), ahead)


class OwnedOrders(OwnedCase):
    def test_the_rows_stay(self):
        chance = chance_of(176)
        for way in ways_of(*OF_WHOLES):
            for one in writings_for(way, (0, 1, 20), chance):
                other = drawn_writing(way, 20, chance)
                with self.subTest(way=told(way), one=one, other=other):
                    self.assert_owned(order, way, list(one), list(other))
                    self.assert_owned(parting, one + [0, 0], other + [0])

    def test_the_rows_stay_behind_a_refusal(self):
        for way in ways_of(*ALL):
            one = [1, 0]
            other = [2, 0]
            with self.subTest(way=told(way)), self.assertRaises((NoPairs, NoWriting)):
                order(way, one, other)
            self.assertEqual((one, other), ([1, 0], [2, 0]))


if __name__ == "__main__":
    unittest.main()
