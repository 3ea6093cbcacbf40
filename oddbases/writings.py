"""Writings: which rows are ones, what a row is worth, and how a number or a row is written."""

from oddbases.errors import NoNumber, NoWriting
from oddbases.falls import fallen
from oddbases.pairs import added, multiplied
from oddbases.rows import trimmed
from oddbases.settling import settled
from oddbases.ways import Falling


def has_figures_alone(way, row):
    for place, thing in enumerate(row):
        if thing < way.low(place) or thing > way.high(place):
            return False
    return True


def has_mosts_above_noughts_alone(way, row):
    for place in range(1, len(row)):
        if row[place] == way.most and row[place - 1] != 0:
            return False
    return True


def is_writing(way, row):
    if row and row[-1] == 0:
        return False
    if isinstance(way, Falling) and not has_mosts_above_noughts_alone(way, row):
        return False
    return has_figures_alone(way, row)


def held_to_be_writings(way, rows):
    for row in rows:
        if not is_writing(way, row):
            raise NoWriting("the row is no writing of the way")


def worth(way, row):
    number = way.nought()
    for thing, weight in zip(row, way.weights(len(row))):
        number = added(number, multiplied(thing, weight))
    return number


def written_by_weights(way, number):
    # From one place to the second next a weight at least doubles, so these places are enough.
    figures = []
    rest = number
    for weight in reversed(way.weights(2 * number.bit_length())):
        # What is left is less than the weight above, so the figure is at most M, and M only with 0 beneath.
        figures.append(rest // weight)
        rest = rest % weight
    figures.reverse()
    return trimmed(figures)


def written(way, number):
    if not way.has(number):
        raise NoNumber("the way has no such number")
    if isinstance(way, Falling):
        return written_by_weights(way, number)
    return settled(way, [number])


def written_row(way, row):
    # Figure by figure, however long the row is; in Falling of a row without a thing below 0.
    if isinstance(way, Falling):
        return fallen(way, row)
    return settled(way, row)
