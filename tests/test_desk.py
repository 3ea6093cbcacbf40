"""[24] Rows of words, answered."""

import unittest

from oddbases.desk import said
from oddbases.errors import NoNumber, NoPairs, NoRow, NoText, Nought, TooLess
from oddbases.ways import Balanced, Below, Pairs
from oddbases.writings import written
from refusals import RefusalCase
from samples import (
    ALL, FROM_NOUGHT_ON, OF_WHOLES, SORTS, chance_of, difference_by_hand, drawn_writing, product_by_hand,
    sum_by_hand, told, ways_of, worth_by_hand, writings_for,
)
from spelling import SIGNS, nought_of, spelled_number, spelled_row, spelled_way

ENDS = tuple(sort(number) for sort, name, least, most in SORTS for number in (least, (least + most) // 3, most))
SORTS_OF_ROWS = {
    "write": "write plain10 12",
    "worth": "worth plain10 1.2",
    "plus": "plus plain10 1.2 3",
    "minus": "minus plain10 1.2 3",
    "times": "times plain10 1.2 3",
    "share": "share plain10 1.2 5",
    "order": "order plain10 1.2 3",
    "move": "move plain10 1.2 plain2",
}


def numbers_for(way):
    wholes = [0, 1, 2, 59, 60, 61, 3600, 10 ** 30 + 1, 10 ** 60 - 1]
    if not isinstance(way, FROM_NOUGHT_ON):
        wholes += [-whole for whole in wholes[1:]]
    if isinstance(way, Pairs):
        return [(whole, 0) for whole in wholes] + [(0, whole) for whole in wholes] + [(5, -7), (1 - 10 ** 60, 3)]
    return wholes


class Said(RefusalCase):
    def test_known_ones(self):
        known = (
            ("write plain10 123", "1.2.3"),
            ("write plain10 0", "0"),
            ("write below10 -7", "1.3"),
            ("write balanced1 -5", "-1.1.1"),
            ("write falling1 4", "1.0.1"),
            ("write pairs1 2,0", "1.1.0.0"),
            ("write pairs9 0,0", "0"),
            ("worth plain10 1.2.3", "123"),
            ("worth plain10 0", "0"),
            ("worth below10 1.3", "-7"),
            ("worth pairs1 1.1.0.0", "2,0"),
            ("worth pairs1 0", "0,0"),
            ("worth pairs3 1.3", "0,1"),
            ("plus plain10 9.9 1", "1.0.0"),
            ("plus below2 1 1.1", "0"),
            ("minus plain10 1.0.0 1", "9.9"),
            ("minus balanced1 0 1", "-1"),
            ("times falling1 1.0.1 1.0.0", "1.0.1.0.1"),
            ("times pairs1 1.1 1.1", "1.1.1.0.1"),
            ("share plain10 1.2.7 10", "1.2 7"),
            ("share below10 1.3 3", "1.7 2"),
            ("share plain2 0 3", "0 0"),
            ("order plain10 1.9 2.0", "less"),
            ("order below10 1.0 2.0", "more"),
            ("order growing2 2.1 2.1", "same"),
            ("order falling1 0 0", "same"),
            ("move plain10 1.2 falling1", "1.0.1.0.1"),
            ("move pairs1 1.1.0.0 plain10", "2"),
            ("move plain2 0 pairs1", "0"),
            ("move plain2 1.0 plain2", "1.0"),
        )
        for row, wanted in known:
            with self.subTest(row=row):
                answer = said(row)
                self.assertEqual(answer, wanted)
                self.assertIs(type(answer), str)

    def test_write_and_worth(self):
        for way in ways_of(*ALL):
            for number in numbers_for(way):
                writing = spelled_row(written(way, number))
                with self.subTest(way=told(way), number=number):
                    self.assertEqual(said(f"write {spelled_way(way)} {spelled_number(number)}"), writing)
                    self.assertEqual(said(f"worth {spelled_way(way)} {writing}"), spelled_number(number))

    def test_worth_of_long_writings(self):
        chance = chance_of(24)
        for way in ways_of(*ALL):
            for row in writings_for(way, (0, 1, 2, 30, 100), chance):
                with self.subTest(way=told(way), row=row):
                    wanted = spelled_number(worth_by_hand(way, row))
                    self.assertEqual(said(f"worth {spelled_way(way)} {spelled_row(row)}"), wanted)

    def test_plus_minus_times(self):
        chance = chance_of(240)
        reckoned = (("plus", sum_by_hand), ("minus", difference_by_hand), ("times", product_by_hand))
        for way in ways_of(*ALL):
            for one in writings_for(way, (0, 1, 2, 12), chance):
                other = drawn_writing(way, chance.randint(0, 12), chance)
                for word, by_hand in reckoned:
                    number = by_hand(worth_by_hand(way, one), worth_by_hand(way, other))
                    row = f"{word} {spelled_way(way)} {spelled_row(one)} {spelled_row(other)}"
                    with self.subTest(row=row):
                        if isinstance(way, FROM_NOUGHT_ON) and number < 0:
                            self.assert_refused(TooLess, said, row)
                        else:
                            self.assertEqual(said(row), spelled_row(written(way, number)))

    def test_share(self):
        chance = chance_of(241)
        for way in ways_of(*OF_WHOLES):
            for one in writings_for(way, (0, 1, 2, 12, 40), chance):
                for many in (1, 2, 7, 60, 10 ** 60 - 1):
                    number = worth_by_hand(way, one)
                    row = f"share {spelled_way(way)} {spelled_row(one)} {many}"
                    with self.subTest(row=row):
                        self.assertEqual(said(row), f"{spelled_row(written(way, number // many))} {number % many}")

    def test_order(self):
        chance = chance_of(242)
        for way in ways_of(*OF_WHOLES):
            for one in writings_for(way, (0, 1, 2, 12, 13), chance):
                for other in (one, [], drawn_writing(way, chance.randint(0, 13), chance)):
                    more = worth_by_hand(way, one) - worth_by_hand(way, other)
                    row = f"order {spelled_way(way)} {spelled_row(one)} {spelled_row(other)}"
                    with self.subTest(row=row):
                        self.assertEqual(said(row), "less" if more < 0 else "more" if more > 0 else "same")

    def test_move(self):
        for way in ENDS:
            for other in ENDS:
                for number in (0, 1, 2, 10 ** 30 + 1):
                    there = written(way, (number, 0) if isinstance(way, Pairs) else number)
                    here = written(other, (number, 0) if isinstance(other, Pairs) else number)
                    row = f"move {spelled_way(way)} {spelled_row(there)} {spelled_way(other)}"
                    with self.subTest(row=row):
                        self.assertEqual(said(row), spelled_row(here))


class RefusedRows(RefusalCase):
    def assert_row_refused(self, wanted, row):
        with self.subTest(row=row):
            self.assert_refused(wanted, said, row)

    def test_other_words(self):
        for row in (
            "", " ", "  ", "~", "0", "write", "plain10", "plain10 write 12", "12 plain10 write", "Write plain10 12",
            "WRITE plain10 12", "writes plain10 12", "writ plain10 12", "written plain10 12", "read plain10 1.2",
            "settle plain10 1.2", "divide plain10 1.2 3", "shared plain10 1.2 3", "moved plain10 1 plain2",
            "+ plain10 1 2", "less plain10 1 2", "w plain10 12", "write,plain10,12", "write.plain10.12",
            "write-plain10-12",
        ):
            self.assert_row_refused(NoRow, row)

    def test_other_counts_of_words(self):
        for word, right in SORTS_OF_ROWS.items():
            words = right.split(" ")
            for many in range(1, len(words)):
                self.assert_row_refused(NoRow, " ".join(words[:many]))
            for more in ("1", "plain10", "x", word):
                self.assert_row_refused(NoRow, f"{right} {more}")
                self.assert_row_refused(NoRow, f"{right} {more} {more}")

    def test_blanks_together_or_at_an_end(self):
        for word, right in SORTS_OF_ROWS.items():
            words = right.split(" ")
            rows = [f" {right}", f"{right} ", f" {right} ", "  ".join(words)]
            for place in range(len(words)):
                rows.append(" ".join(words[:place] + [""] + words[place:]))
                # As many words as the row wants, but one of them is nothing.
                rows.append(" ".join(words[:place] + [""] + words[place + 1:]))
            for row in rows:
                self.assert_row_refused(NoRow, row)

    def test_a_wrong_row_goes_ahead_of_wrong_words(self):
        for row in (
            "write plain61", "write plain61 x y", "other plain61 x", "write  plain61", "worth plain10 x ",
            "plus plain1 x", "share pairs3 1 0 0", "order pairs3 1", "minus plain10 0 1 ", " minus plain10 0 1",
            "write plain10 -1 ",
        ):
            self.assert_row_refused(NoRow, row)

    def test_another_sign_in_the_first_word(self):
        for word, right in SORTS_OF_ROWS.items():
            for sign in SIGNS:
                for row in (sign + right, word + sign + right[len(word):], sign + right[1:]):
                    if row.split(" ")[0] not in SORTS_OF_ROWS or "  " in row:
                        self.assert_row_refused(NoRow, row)

    def test_words_that_are_no_way(self):
        wrongs = ("plain61", "plain1", "plain010", "plain", "10", "Plain10", "falling10", "pairs0", "x", "-", "plain+2")
        for wrong in wrongs:
            for word, right in SORTS_OF_ROWS.items():
                self.assert_row_refused(NoText, right.replace("plain10", wrong))
            self.assert_row_refused(NoText, f"move plain10 1.2 {wrong}")

    def test_words_that_are_no_number(self):
        for wrong in ("x", "-0", "01", "+1", "1,", ",1", "1,2,3", "1.2", "1" + "0" * 60, "1,-0", "-"):
            self.assert_row_refused(NoText, f"write plain10 {wrong}")
            self.assert_row_refused(NoText, f"write pairs3 {wrong}")
            self.assert_row_refused(NoText, f"share plain10 1.2 {wrong}")

    def test_words_that_are_no_writing(self):
        for wrong in ("x", "10", "-1", "0.1", "1.", ".1", "1..2", "00", "01", "1,2", "1.-0", "+1", "1.10"):
            self.assert_row_refused(NoText, f"worth plain10 {wrong}")
            self.assert_row_refused(NoText, f"share plain10 {wrong} 3")
            self.assert_row_refused(NoText, f"move plain10 {wrong} plain2")
            for word in ("plus", "minus", "times", "order"):
                self.assert_row_refused(NoText, f"{word} plain10 {wrong} 1")
                self.assert_row_refused(NoText, f"{word} plain10 1 {wrong}")
                self.assert_row_refused(NoText, f"{word} plain10 {wrong} {wrong}")

    def test_a_pair_to_share_by(self):
        for way in ways_of(*ALL):
            for pair in ("1,0", "0,0", "3,-4", "-1,2"):
                self.assert_row_refused(NoText, f"share {spelled_way(way)} 1 {pair}")

    def test_wrong_words_go_ahead_of_what_the_function_refuses(self):
        for row in (
            "share pairs3 10 1", "share pairs3 1 x", "share pairs3 x 0", "share plain10 1 -0", "share plain10 0.1 0",
            "order pairs3 1 10", "order pairs3 10 1", "order pairs3 x x", "minus plain10 0 0.1", "minus plain10 0 x",
            "move balanced1 -1 plain61", "move balanced1 -2 plain10", "move pairs1 1.1 plain1", "write plain61 -1",
            "write plain10 -01", "write pairs3 01",
        ):
            self.assert_row_refused(NoText, row)

    def test_what_the_functions_refuse(self):
        for wanted, row in (
            (NoNumber, "write plain10 -1"), (NoNumber, "write growing2 -1"), (NoNumber, "write falling1 -1"),
            (NoNumber, "write plain10 1,0"), (NoNumber, "write balanced1 0,0"), (NoNumber, "write below2 1,-1"),
            (NoNumber, "write pairs3 5"), (NoNumber, "write pairs3 0"), (NoNumber, "write pairs3 -5"),
            (TooLess, "minus plain10 1 2"), (TooLess, "minus growing2 0 1"), (TooLess, "minus falling1 1.0 1.0.0"),
            (NoPairs, "share pairs3 1 3"), (NoPairs, "share pairs3 0 0"), (NoPairs, "share pairs3 1 -1"),
            (Nought, "share plain10 1 0"), (Nought, "share balanced1 -1 -3"), (Nought, "share falling1 0 0"),
            (Nought, "share below2 1.1 -1"), (Nought, "share growing2 1 0"),
            (NoPairs, "order pairs3 1 1"), (NoPairs, "order pairs1 0 1.1"),
            (NoNumber, "move below10 1.3 plain10"), (NoNumber, "move balanced1 -1 growing2"),
            (NoNumber, "move pairs1 1.1 plain10"), (NoNumber, "move pairs1 1.1 balanced1"),
            (NoNumber, "move pairs1 1.1.1.0.1 falling9"),
        ):
            self.assert_row_refused(wanted, row)

    def test_numbers_that_each_way_has_not(self):
        for way in ways_of(*ALL):
            wrong = ["3"] if isinstance(way, Pairs) else ["3,0", "0,0", "0,1"]
            if isinstance(way, FROM_NOUGHT_ON):
                wrong += ["-1", "-60"]
            for number in wrong:
                self.assert_row_refused(NoNumber, f"write {spelled_way(way)} {number}")

    def test_what_is_right_is_answered_behind_a_refusal_as_ahead_of_it(self):
        for word, right in SORTS_OF_ROWS.items():
            with self.subTest(row=right):
                ahead = said(right)
                self.assert_refused(NoRow, said, right + " ")
                self.assert_refused(NoText, said, right.replace("plain10", "plain99"))
                self.assertEqual(said(right), ahead)


class RowsOfRows(unittest.TestCase):
    def test_the_writing_of_nought_in_every_sort_of_row(self):
        for way in ways_of(*ALL):
            name = spelled_way(way)
            with self.subTest(way=told(way)):
                self.assertEqual(said(f"write {name} {spelled_number(nought_of(way))}"), "0")
                self.assertEqual(said(f"worth {name} 0"), spelled_number(nought_of(way)))
                for word in ("plus", "minus", "times"):
                    self.assertEqual(said(f"{word} {name} 0 0"), "0")
                self.assertEqual(said(f"move {name} 0 balanced1"), "0")

    def test_below_nought_in_every_sort_of_row(self):
        for way in ways_of(Below, Balanced):
            name = spelled_way(way)
            with self.subTest(way=told(way)):
                less = said(f"write {name} -7")
                self.assertEqual(said(f"worth {name} {less}"), "-7")
                self.assertEqual(said(f"share {name} {less} 3"), said(f"write {name} -3") + " 2")
                self.assertEqual(said(f"order {name} {less} 0"), "less")
                self.assertEqual(said(f"order {name} 0 {less}"), "more")
                self.assertEqual(said(f"move {name} {less} pairs2"), said("write pairs2 -7,0"))


if __name__ == "__main__":
    unittest.main()
