"""[12] The carries of a row."""

import unittest

from oddbases.errors import NoRatio, TooLess
from oddbases.pairs import added, multiplied
from oddbases.settling import carries, settled
from oddbases.ways import Balanced, Below, Falling, Growing, Pairs, Plain
from refusals import RefusalCase
from samples import (
    HUGE, VAST, WITH_RATIO, chance_of, is_too_less, told, totals_for, ways_of, without_end_noughts,
)


def nought_of(way):
    return (0, 0) if isinstance(way, Pairs) else 0


def figures_by_equations(way, row, found):
    # At each place the figure is c + t - d times the ratio.
    figures = []
    for place in range(len(found) - 1):
        thing = row[place] if place < len(row) else 0
        turned = multiplied(found[place + 1], multiplied(way.ratio(place), -1))
        figures.append(added(added(found[place], thing), turned))
    return figures


class Carries(unittest.TestCase):
    def test_known_carries(self):
        known = (
            (Plain(10), [123], [0, 12, 1, 0]),
            (Plain(10), [12, -1, 1], [0, 1, 0, 0]),
            (Plain(10), [-1, 1, 0], [0, -1, 0, 0]),
            (Below(10), [10], [0, -1, 1, 0]),
            (Below(2), [2, 1], [0, -1, 0]),
            (Balanced(1), [2, 0, 0], [0, 1, 0, 0]),
            (Growing(2), [7], [0, 3, 1, 0]),
            (Pairs(1), [2], [(0, 0), (-1, -1), (0, 1), (1, 0), (0, 0)]),
            (Pairs(3), [(0, 1), 3], [(0, 0), (1, 0), (0, 0)]),
        )
        for way, row, wanted in known:
            with self.subTest(way=told(way), row=row):
                self.assertEqual(carries(way, row), wanted)

    def test_of_noughts_all_are_nought(self):
        for way in ways_of(*WITH_RATIO):
            for many in (0, 1, 2, 300):
                with self.subTest(way=told(way), many=many):
                    self.assertEqual(carries(way, [0] * many), [nought_of(way)] * (many + 1))

    def test_each_place_keeps_its_equation(self):
        chance = chance_of(12)
        for way in ways_of(*WITH_RATIO):
            for row in totals_for(way, chance):
                if not is_too_less(way, row):
                    with self.subTest(way=told(way), row=row):
                        self.assert_carries(way, row)

    def assert_carries(self, way, row):
        handed = list(row)
        found = carries(way, handed)
        self.assertEqual(handed, row)
        self.assertIs(type(found), list)
        self.assert_kinds(way, found)
        self.assert_ends(way, row, found)
        figures = figures_by_equations(way, row, found)
        self.assert_figures(way, figures)
        if isinstance(way, Pairs):
            figures = [figure[0] for figure in figures]
        self.assertEqual(without_end_noughts(figures), settled(way, row))

    def assert_kinds(self, way, found):
        for carry in found:
            things = carry if isinstance(way, Pairs) else (carry,)
            self.assertIs(type(things), tuple)
            self.assertEqual([type(thing) for thing in things], [int] * len(things))
            self.assertEqual(len(things), 2 if isinstance(way, Pairs) else 1)

    def assert_ends(self, way, row, found):
        nought = nought_of(way)
        self.assertEqual((found[0], found[-1]), (nought, nought))
        self.assertGreater(len(found), len(row))
        # Behind the row's end it goes on for as long as there is a carry, and no longer.
        self.assertNotIn(nought, found[len(row):-1])

    def assert_figures(self, way, figures):
        for place, figure in enumerate(figures):
            if isinstance(way, Pairs):
                self.assertEqual(figure[1], 0)
                figure = figure[0]
            self.assertTrue(way.low(place) <= figure <= way.high(place))

    def test_noughts_behind_bring_carries_of_nought(self):
        for way in ways_of(*WITH_RATIO):
            for row in ([], [1], [HUGE, 5], [1, 1, 1]):
                with self.subTest(way=told(way), row=row):
                    found = carries(way, row)
                    places = len(found) - 1
                    for many in (1, 4):
                        longer = row + [0] * (places - len(row) + many)
                        self.assertEqual(carries(way, longer), found + [nought_of(way)] * many)

    def test_a_list_told_is_the_askers_own(self):
        for way in ways_of(*WITH_RATIO):
            for row in ([], [0], [1, 1], [HUGE, VAST]):
                with self.subTest(way=told(way), row=row):
                    found = carries(way, row)
                    wanted = list(found)
                    found.append(7)
                    found[0] = HUGE
                    self.assertEqual(carries(way, row), wanted)

    def test_carries_that_were_told_are_settled(self):
        for way in ways_of(*WITH_RATIO):
            with self.subTest(way=told(way)):
                self.assert_carries(way, carries(way, [VAST, 1, VAST]))


class RefusedCarries(RefusalCase):
    def test_rows_below_nought(self):
        for way in ways_of(Plain, Growing):
            for row in ([-1], [0, -1], [0, -1, 0, 0], [1, -1], [-HUGE, 1], [VAST] + [0] * 298 + [-VAST]):
                with self.subTest(way=told(way), row=row):
                    self.assert_refused(TooLess, carries, way, row)

    def test_falling(self):
        for way in ways_of(Falling):
            for row in ([], [0], [1], [-1], [way.most], [HUGE, -VAST]):
                with self.subTest(way=told(way), row=row):
                    self.assert_refused(NoRatio, carries, way, row)

    def test_what_is_right_is_answered_behind_a_refusal_as_ahead_of_it(self):
        for way in ways_of(Plain, Growing):
            with self.subTest(way=told(way)):
                ahead = carries(way, [HUGE, -3, 1])
                self.assert_refused(TooLess, carries, way, [0, -3])
                self.assert_refused(NoRatio, carries, Falling(1), [HUGE, -3, 1])
                self.assertEqual(carries(way, [HUGE, -3, 1]), ahead)


if __name__ == "__main__":
    unittest.main()
