"""Writings moved from one way to another."""

from oddbases.pairs import as_pair, is_pair
from oddbases.ways import Pairs
from oddbases.writings import held_to_be_writings, worth, written


def as_wanted(way, number):
    # A pair (n, 0) and the whole number n count as the same.
    if isinstance(way, Pairs):
        return as_pair(number)
    if is_pair(number) and number[1] == 0:
        return number[0]
    return number


def moved(way, row, other):
    held_to_be_writings(way, [row])
    return written(other, as_wanted(other, worth(way, row)))
