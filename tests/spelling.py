"""How texts are spelled, by hand: what a text writes, or None."""

import re

from oddbases.ways import Pairs
from oddbases.writings import is_writing
from samples import SORTS

# What texts are made of: from the blank to the ~, but for the percent sign.
SIGNS = tuple(chr(code) for code in range(ord(" "), ord("~") + 1) if chr(code) != chr(37))
WHOLE = re.compile(r"0|-?[1-9][0-9]{0,59}")
WAY = re.compile(r"(plain|below|balanced|growing|falling|pairs)([1-9][0-9]*)")


def name_of(sort):
    return sort.__name__.lower()


def way_by_hand(text):
    # The class and the number.
    match = WAY.fullmatch(text)
    if match:
        for sort, name, least, most in SORTS:
            if match[1] == name_of(sort) and least <= int(match[2]) <= most:
                return (sort, int(match[2]))
    return None


def whole_by_hand(text):
    return int(text) if WHOLE.fullmatch(text) else None


def number_by_hand(text):
    if "," not in text:
        return whole_by_hand(text)
    pair = tuple(whole_by_hand(part) for part in text.split(","))
    return pair if len(pair) == 2 and None not in pair else None


def row_by_hand(way, text):
    if text == "0":
        return []
    row = [whole_by_hand(part) for part in text.split(".")][::-1]
    return row if None not in row and is_writing(way, row) else None


def spelled_row(row):
    return ".".join(str(figure) for figure in reversed(row)) or "0"


def spelled_number(number):
    return ",".join(str(whole) for whole in number) if isinstance(number, tuple) else str(number)


def spelled_way(way):
    return name_of(type(way)) + "".join(str(number) for number in vars(way).values())


def nought_of(way):
    return (0, 0) if isinstance(way, Pairs) else 0


def misspelled(text):
    # The text with one sign put in, put in another's place, or left out.
    texts = [text[:place] + text[place + 1:] for place in range(len(text))]
    for sign in SIGNS:
        texts += [text[:place] + sign + text[place:] for place in range(len(text) + 1)]
        texts += [text[:place] + sign + text[place + 1:] for place in range(len(text))]
    return texts
