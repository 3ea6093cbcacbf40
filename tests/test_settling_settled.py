"""[11] Rows of totals settled; [3] (b) the writing is that of the row's worth."""

import itertools
import unittest

from oddbases.errors import NoRatio, TooLess
from oddbases.settling import carries, settled
from oddbases.ways import Balanced, Below, Falling, Growing, Pairs, Plain
from oddbases.writings import is_writing, worth, written
from refusals import RefusalCase
from samples import (
    ALL, HUGE, VAST, WITH_RATIO, chance_of, drawn_totals, is_too_less, told, totals_for, ways_of, worth_by_hand,
)


class Settled(unittest.TestCase):
    def test_known_rows(self):
        known = (
            (Plain(10), [123], [3, 2, 1]),
            (Plain(10), [12, -1, 1], [2, 0, 1]),
            (Plain(10), [-1, 1], [9]),
            (Plain(2), [2, 2, 2], [0, 1, 1, 1]),
            (Plain(10), [10, -1], []),
            (Below(10), [10], [0, 9, 1]),
            (Below(10), [-7], [3, 1]),
            (Below(2), [2], [0, 1, 1]),
            (Below(2), [2, 1], []),
            (Balanced(1), [2], [-1, 1]),
            (Balanced(1), [-2, 5], [1, 1, 1]),
            (Growing(2), [7], [1, 0, 1]),
            (Growing(2), [2, 3, 4], [0, 1, 1, 1]),
            (Pairs(1), [2], [0, 0, 1, 1]),
            (Pairs(1), [(0, 1)], [1, 1]),
            (Pairs(1), [(2, 0), -1, (0, -1)], [0, 1, 0, 1, 1, 1]),
            (Pairs(3), [10], [0, 4, 5, 1]),
            (Pairs(3), [(0, 1), 3], [3, 4]),
        )
        for way, row, wanted in known:
            with self.subTest(way=told(way), row=row):
                self.assertEqual(settled(way, row), wanted)
                self.assertEqual(worth_by_hand(way, wanted), worth_by_hand(way, row))

    def test_it_is_a_writing_of_the_rows_worth(self):
        chance = chance_of(11)
        for way in ways_of(*WITH_RATIO):
            for row in totals_for(way, chance):
                if not is_too_less(way, row):
                    with self.subTest(way=told(way), row=row):
                        self.assert_settled(way, row)

    def assert_settled(self, way, row):
        handed = list(row)
        answer = settled(way, handed)
        self.assertEqual(handed, row)
        self.assertIs(type(answer), list)
        self.assertTrue(is_writing(way, answer))
        self.assertEqual(worth(way, answer), worth_by_hand(way, row))
        self.assertEqual(answer, written(way, worth_by_hand(way, row)))
        for many in (1, 2, 50):
            self.assertEqual(settled(way, handed + [0] * many), answer)

    def test_the_row_of_nothing_and_rows_of_noughts(self):
        for way in ways_of(*WITH_RATIO):
            for many in (0, 1, 2, 300):
                with self.subTest(way=told(way), many=many):
                    self.assertEqual(settled(way, [0] * many), [])
        for way in ways_of(Pairs):
            self.assertEqual(settled(way, [(0, 0), 0, (0, 0)]), [])

    def test_a_whole_number_in_pairs_stands_for_a_pair(self):
        chance = chance_of(110)
        for way in ways_of(Pairs):
            for length in (1, 3, 9):
                row = drawn_totals(Plain(2), length, 20, chance)
                with self.subTest(way=told(way), row=row):
                    self.assertEqual(settled(way, row), settled(way, [(thing, 0) for thing in row]))

    def test_a_writing_is_settled_to_itself(self):
        chance = chance_of(111)
        for way in ways_of(*WITH_RATIO):
            for row in totals_for(way, chance):
                if not is_too_less(way, row):
                    with self.subTest(way=told(way), row=row):
                        writing = settled(way, row)
                        self.assertEqual(settled(way, writing), writing)

    def test_a_list_told_is_the_askers_own(self):
        for way in ways_of(*WITH_RATIO):
            for row in ([], [0], [1], [1, 1, 1], [HUGE, VAST]):
                with self.subTest(way=told(way), row=row):
                    handed = list(row)
                    answer = settled(way, handed)
                    wanted = list(answer)
                    answer.append(7)
                    answer[0] = -1
                    self.assertEqual(handed, row)
                    self.assertEqual(settled(way, handed), wanted)
                    handed.append(HUGE)
                    self.assertEqual(settled(way, row), wanted)


class TooLessToSettle(RefusalCase):
    def assert_refused_where_below_nought(self, way, row):
        handed = list(row)
        if worth_by_hand(way, row) < 0:
            self.assert_refused(TooLess, settled, way, handed)
            self.assert_refused(TooLess, carries, way, handed)
        else:
            self.assertEqual(worth(way, settled(way, handed)), worth_by_hand(way, row))
            self.assertEqual(carries(way, handed)[-1], 0)
        self.assertEqual(handed, row)

    def test_every_small_row(self):
        for way in (Plain(2), Plain(3), Plain(10), Growing(2), Growing(3), Growing(10)):
            for length in range(5):
                for row in itertools.product(range(-3, 4), repeat=length):
                    with self.subTest(way=told(way), row=row):
                        self.assert_refused_where_below_nought(way, list(row))

    def test_rows_of_large_things(self):
        chance = chance_of(1111)
        for way in ways_of(Plain, Growing):
            for row in totals_for(way, chance):
                with self.subTest(way=told(way), row=row):
                    self.assert_refused_where_below_nought(way, row)

    def test_worths_beside_nought(self):
        for way in ways_of(Plain, Growing):
            for place in (1, 2, 3, 40, 299):
                weight = way.weight(place)
                for more in (-2, -1, 0, 1):
                    row = [-weight + more] + [0] * (place - 1) + [1]
                    with self.subTest(way=told(way), place=place, more=more):
                        self.assert_refused_where_below_nought(way, row)
                        self.assert_refused_where_below_nought(way, row + [0, 0])

    def test_noughts_behind_a_row_below_nought(self):
        for way in ways_of(Plain, Growing):
            for row in ([-1], [-1, 0, 0], [0, -1], [1, -1], [-VAST], [HUGE] + [0] * 250 + [-1]):
                with self.subTest(way=told(way), row=row):
                    self.assert_refused_where_below_nought(way, row)

    def test_the_other_ways_settle_what_is_below_nought(self):
        for way in ways_of(Below, Balanced):
            for row in ([-1], [-HUGE], [0, 0, -VAST], [5, 0, -1, 0]):
                with self.subTest(way=told(way), row=row):
                    self.assertEqual(worth(way, settled(way, row)), worth_by_hand(way, row))

    def test_what_is_right_is_answered_behind_a_refusal_as_ahead_of_it(self):
        for way in ways_of(Plain, Growing):
            with self.subTest(way=told(way)):
                ahead = settled(way, [HUGE, -3, 1])
                self.assert_refused(TooLess, settled, way, [0, -3])
                self.assertEqual(settled(way, [HUGE, -3, 1]), ahead)


class NoRatioToSettleBy(RefusalCase):
    def test_falling_settles_nothing(self):
        for way in ways_of(Falling):
            for row in ([], [0], [1], [-1], [0, 0], [1, 0, 1], [-HUGE, 2], [0] * 299 + [VAST]):
                with self.subTest(way=told(way), row=row):
                    self.assert_refused(NoRatio, settled, way, row)
                    self.assert_refused(NoRatio, carries, way, row)

    def test_the_row_stays(self):
        for way in ways_of(*ALL):
            row = [-5, 3]
            for asked in (settled, carries):
                with self.subTest(way=told(way)):
                    try:
                        asked(way, row)
                    except (NoRatio, TooLess):
                        pass
                    self.assertEqual(row, [-5, 3])


if __name__ == "__main__":
    unittest.main()
