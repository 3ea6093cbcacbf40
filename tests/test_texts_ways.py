"""[23] Ways as texts."""

import unittest

from oddbases.errors import NoText
from oddbases.texts import way_read, way_shown
from oddbases.ways import Balanced, Below, Falling, Growing, Pairs, Plain
from refusals import RefusalCase
from samples import HUGE, SORTS, told
from spelling import misspelled, name_of, way_by_hand

ALL_WAYS = tuple(sort(number) for sort, name, least, most in SORTS for number in range(least, most + 1))


class WayTexts(RefusalCase):
    def assert_way(self, way, sort, number):
        self.assertIs(type(way), sort)
        self.assertEqual(list(vars(way).values()), [number])

    def test_known_ones(self):
        known = (
            (Plain(10), "plain10"), (Below(2), "below2"), (Balanced(1), "balanced1"), (Growing(2), "growing2"),
            (Falling(1), "falling1"), (Pairs(3), "pairs3"), (Plain(60), "plain60"), (Balanced(30), "balanced30"),
        )
        for way, text in known:
            with self.subTest(text=text):
                self.assertEqual(way_shown(way), text)
                self.assert_way(way_read(text), type(way), list(vars(way).values())[0])

    def test_every_way_is_shown_and_read(self):
        for way in ALL_WAYS:
            with self.subTest(way=told(way)):
                text = way_shown(way)
                number = list(vars(way).values())[0]
                self.assertIs(type(text), str)
                self.assertEqual(text, name_of(type(way)) + str(number))
                self.assert_way(way_read(text), type(way), number)

    def test_what_is_read_is_a_way_like_any_other(self):
        for way in ALL_WAYS:
            read = way_read(way_shown(way))
            with self.subTest(way=told(way)):
                self.assertEqual([read.weight(place) for place in range(5)], [way.weight(place) for place in range(5)])
                self.assertEqual([read.high(place) for place in range(5)], [way.high(place) for place in range(5)])
                self.assertIsNot(way_read(way_shown(way)), read)

    def test_numbers_beyond_the_bounds(self):
        for sort, name, least, most in SORTS:
            numbers = [str(number) for number in (least - 1, most + 1, -least, -most, 0, -1, 61, 100, HUGE, -HUGE)]
            for number in numbers + ["1" + "0" * 59, "1" + "0" * 60, "1" + "0" * 4400]:
                with self.subTest(sort=name_of(sort), number=number):
                    self.assert_refused(NoText, way_read, name_of(sort) + number)

    def test_other_texts(self):
        for sort, name, least, most in SORTS:
            word = name_of(sort)
            for text in (
                "", word, str(least), str(most), f" {word}{least}", f"{word}{least} ", f"{word} {least}",
                f"{word}0{least}", f"{word}00{most}", f"{word}+{least}", f"{word}-{least}", f"{word.upper()}{least}",
                f"{word.title()}{least}", f"{least}{word}", f"{word}{least}.0", f"{word}{least},{least}",
                f"{word}_{least}", f"{word}({least})", f"{word[:-1]}{least}", f"{word}s{least}", f"{word}{word}{least}",
                f"{word}{least}{word}{least}", f"way{least}", "0", " ", "~", "-0", f"{word}-0", f"{word}0",
            ):
                with self.subTest(text=text):
                    self.assert_refused(NoText, way_read, text)

    def test_a_sign_more_or_less_or_another(self):
        for sort, name, least, most in SORTS:
            for number in (least, most):
                for text in misspelled(name_of(sort) + str(number)):
                    wanted = way_by_hand(text)
                    with self.subTest(text=text):
                        if wanted is None:
                            self.assert_refused(NoText, way_read, text)
                        else:
                            self.assert_way(way_read(text), *wanted)

    def test_what_is_right_is_read_behind_a_refusal_as_ahead_of_it(self):
        self.assert_way(way_read("pairs3"), Pairs, 3)
        self.assert_refused(NoText, way_read, "pairs10")
        self.assert_way(way_read("pairs3"), Pairs, 3)


if __name__ == "__main__":
    unittest.main()
