"""[23] Writings as texts."""

import unittest

from oddbases.errors import NoText
from oddbases.texts import row_read, row_shown
from oddbases.ways import Balanced, Below, Falling, Growing, Pairs, Plain
from owned import OwnedCase
from refusals import RefusalCase
from samples import ALL, chance_of, drawn_writing, no_writings, small_writings, told, ways_of, writings_for
from spelling import misspelled, row_by_hand, spelled_row


class RowTexts(RefusalCase):
    def test_known_ones(self):
        known = (
            (Plain(10), [], "0"), (Falling(1), [1, 0, 1], "1.0.1"), (Balanced(1), [1, -1], "-1.1"),
            (Plain(60), [59, 0, 10], "10.0.59"), (Balanced(30), [-30, 30], "30.-30"), (Pairs(9), [81, 7], "7.81"),
            (Growing(60), [0, 60, 61], "61.60.0"), (Below(10), [3, 1], "1.3"), (Plain(2), [1], "1"),
            (Pairs(3), [], "0"),
        )
        for way, row, text in known:
            with self.subTest(way=told(way), text=text):
                self.assertEqual(row_shown(row), text)
                self.assertEqual(row_read(way, text), row)

    def assert_shown_and_read(self, way, row):
        text = row_shown(row)
        self.assertIs(type(text), str)
        self.assertEqual(text, spelled_row(row))
        read = row_read(way, text)
        self.assertIs(type(read), list)
        self.assertEqual(read, row)

    def test_writings_of_each_way(self):
        chance = chance_of(230)
        for way in ways_of(*ALL):
            rows = small_writings(way, 50) + writings_for(way, (0, 1, 2, 3, 40, 100, 300), chance)
            for row in rows:
                with self.subTest(way=told(way), row=row):
                    self.assert_shown_and_read(way, row)

    def test_what_writes_no_writing_of_the_way(self):
        chance = chance_of(231)
        for way in ways_of(*ALL):
            for places in (2, 3, 20):
                for row in no_writings(way, places, chance):
                    with self.subTest(way=told(way), row=row):
                        self.assert_refused(NoText, row_read, way, spelled_row(row))

    def test_a_figure_of_one_way_may_be_none_of_another(self):
        for way, text in (
            (Plain(2), "2"), (Plain(10), "1.10"), (Plain(10), "-1"), (Plain(10), "1.-1"), (Below(2), "1.2"),
            (Balanced(1), "2"), (Balanced(1), "1.-2"), (Growing(2), "2"), (Growing(2), "3.0"), (Falling(1), "1.1"),
            (Falling(2), "2.1"), (Falling(2), "3"), (Pairs(1), "2"), (Pairs(3), "10"), (Pairs(3), "1,0"),
        ):
            with self.subTest(way=told(way), text=text):
                self.assert_refused(NoText, row_read, way, text)

    def test_other_texts(self):
        for way in ways_of(*ALL):
            for text in (
                "", " ", ".", "1.", ".1", "1..1", "0.", "0.0", "0.1", "0.0.1", "00", "-0", "01", "1.00", "1.01", "1.-0",
                " 1", "1 ", "1. 0", "1 .0", "+1", "1.+0", "1,0", "1;0", "[1]", "a", "1.a", "1.0.", "-", "1.-", "..",
                "1" * 61, "1.0." + "1" * 61, "1" * 4400, "1_0",
            ):
                with self.subTest(way=told(way), text=text):
                    self.assert_refused(NoText, row_read, way, text)

    def test_a_sign_more_or_less_or_another(self):
        chance = chance_of(232)
        for way in (Plain(2), Plain(60), Below(10), Balanced(1), Balanced(30), Growing(2), Falling(1), Falling(9),
                    Pairs(1), Pairs(9)):
            for right in ("0", "1.0.0", spelled_row(drawn_writing(way, 4, chance))):
                for text in misspelled(right):
                    with self.subTest(way=told(way), text=text):
                        self.assert_read_or_refused(way, text)

    def assert_read_or_refused(self, way, text):
        wanted = row_by_hand(way, text)
        if wanted is None:
            self.assert_refused(NoText, row_read, way, text)
        else:
            self.assertEqual(row_read(way, text), wanted)

    def test_what_is_right_is_read_behind_a_refusal_as_ahead_of_it(self):
        for way in ways_of(*ALL):
            with self.subTest(way=told(way)):
                self.assertEqual(row_read(way, "1.0.0"), [0, 0, 1])
                self.assert_refused(NoText, row_read, way, "0.1.0.0")
                self.assertEqual(row_read(way, "1.0.0"), [0, 0, 1])


class OwnedRows(OwnedCase):
    def test_the_row_stays(self):
        chance = chance_of(233)
        for way in ways_of(*ALL):
            for row in writings_for(way, (0, 1, 2, 20), chance):
                with self.subTest(way=told(way), row=row):
                    self.assert_owned(row_shown, list(row))

    def test_the_list_told_is_the_askers_own(self):
        for way in ways_of(*ALL):
            for text in ("0", "1", "1.0.0"):
                with self.subTest(way=told(way), text=text):
                    self.assert_owned(row_read, way, text)


if __name__ == "__main__":
    unittest.main()
