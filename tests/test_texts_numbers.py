"""[23] Numbers and pairs as texts."""

import unittest

from oddbases.errors import NoText
from oddbases.texts import number_read, number_shown
from refusals import RefusalCase
from samples import HUGE, VAST, chance_of, drawn_thing
from spelling import misspelled, number_by_hand

SIXTY = "123456789012345678901234567890123456789012345678901234567890"
# Sixty figures at most, so that they are read, too.
WHOLES = tuple(range(-25, 26)) + (
    99, 100, -100, 10 ** 58, 10 ** 59, 10 ** 60 - 1, -10 ** 59, 1 - 10 ** 60, int(SIXTY), -int(SIXTY),
)


class NumberTexts(RefusalCase):
    def test_known_ones(self):
        known = (
            (0, "0"), (7, "7"), (-7, "-7"), (10, "10"), (-120, "-120"), (int(SIXTY), SIXTY), (-int(SIXTY), "-" + SIXTY),
            ((0, 0), "0,0"), ((3, -4), "3,-4"), ((-10, 0), "-10,0"), ((int(SIXTY), -int(SIXTY)), f"{SIXTY},-{SIXTY}"),
        )
        for number, text in known:
            with self.subTest(text=text):
                self.assert_shown_and_read(number, text)

    def assert_shown_and_read(self, number, text):
        self.assertEqual(number_shown(number), text)
        self.assertIs(type(number_shown(number)), str)
        self.assertEqual(number_read(text), number)
        self.assertIs(type(number_read(text)), type(number))

    def test_whole_numbers(self):
        for number in WHOLES:
            with self.subTest(number=number):
                self.assert_shown_and_read(number, str(number))

    def test_pairs(self):
        for first in WHOLES:
            for second in (first, -first, 0, 1, -1, WHOLES[-1], 10 ** 60 - 1):
                with self.subTest(first=first, second=second):
                    self.assert_shown_and_read((first, second), f"{first},{second}")

    def test_as_many_figures_as_a_number_has_are_shown(self):
        for figures in (59, 60, 61, 119, 120, 121, 180, 181, 200, 299, 300):
            for number in (10 ** (figures - 1), 10 ** figures - 1, 10 ** (figures - 1) + 7, 10 ** figures // 7):
                with self.subTest(figures=figures, number=number):
                    self.assertEqual(number_shown(number), str(number))
                    self.assertEqual(number_shown(-number), str(-number))
                    self.assertEqual(number_shown((number, -number)), f"{number},{-number}")
        for number in (HUGE, VAST):
            self.assertEqual(number_shown(-number), str(-number))

    def test_drawn_numbers(self):
        chance = chance_of(23)
        for often in range(300):
            number = drawn_thing(chance, 290)
            with self.subTest(number=number):
                self.assertEqual(number_shown(number), str(number))

    def test_numbers_of_thousands_of_figures_are_shown(self):
        # What was told may be handed in again, whatever its size.
        self.assertEqual(number_shown(10 ** 9000 + 5), "1" + "0" * 8999 + "5")
        self.assertEqual(number_shown(-(10 ** 9000)), "-1" + "0" * 9000)
        self.assertEqual(number_shown((10 ** 5000 - 1, -3)), "9" * 5000 + ",-3")


class OtherNumberTexts(RefusalCase):
    def test_other_texts(self):
        for text in (
            "", " ", "-", "--1", "+", "+1", "+0", "-0", "00", "01", "-01", "007", " 1", "1 ", "1 2", "- 1", "1-", "1.0",
            "1_0", "0x1", "1e3", "a", "~", "1,", ",1", ",", "1,,2", "1,2,3", "1,2,", ",1,2", "1, 2", "1 ,2", "(1,2)",
            "1,+2", "1,-0", "-0,1", "01,2", "1,02", "1;2", "1/2", "1" + SIXTY, "-1" + SIXTY, "0" * 60, "0" * 61,
            "1" + "0" * 60, "9" * 61, "1" * 4400, "1" * 4999, f"1,1{SIXTY}", f"1{SIXTY},1", f"-{SIXTY}0,0",
            "True", "None",
        ):
            with self.subTest(text=text):
                self.assert_refused(NoText, number_read, text)

    def test_a_sign_more_or_less_or_another(self):
        for right in ("0", "7", "-7", "10", "-205", "0,0", "-1,20", SIXTY, "-" + SIXTY):
            for text in misspelled(right):
                wanted = number_by_hand(text)
                with self.subTest(text=text):
                    if wanted is None:
                        self.assert_refused(NoText, number_read, text)
                    else:
                        self.assertEqual(number_read(text), wanted)
                        self.assertIs(type(number_read(text)), type(wanted))

    def test_what_is_right_is_read_behind_a_refusal_as_ahead_of_it(self):
        for text, number in (("-5", -5), ("1,-2", (1, -2))):
            with self.subTest(text=text):
                self.assertEqual(number_read(text), number)
                self.assert_refused(NoText, number_read, text + ",")
                self.assert_refused(NoText, number_read, text + "x")
                self.assertEqual(number_read(text), number)


if __name__ == "__main__":
    unittest.main()
