"""Sums, differences and products of writings, made figure by figure."""

from oddbases.errors import TooLess
from oddbases.pairs import added, multiplied
from oddbases.rows import thing_at
from oddbases.ways import Falling
from oddbases.writings import held_to_be_writings, written_row


def row_plus(one, other):
    many = max(len(one), len(other))
    return [added(thing_at(one, place), thing_at(other, place)) for place in range(many)]


def row_times(row, factor):
    return [multiplied(thing, factor) for thing in row]


def lender_above(row, place):
    for lender in range(place + 1, len(row)):
        if row[lender] > 0:
            return lender
    # What one writing has beneath a place is worth less than 1 there: it can't make good what is wanting.
    raise TooLess("the difference is below 0")


def lend(way, row, lender):
    row[lender] -= 1
    row[lender - 1] += way.most
    # The weight at place 1 is M + 1; from there on a weight is M times the one beneath and once the one beneath that.
    if lender == 1:
        row[0] += 1
    else:
        row[lender - 2] += 1


def without_debts(way, row):
    # Of a difference in Falling; from above, so that beneath a place in debt all is still as it was.
    things = list(row)
    for place in range(len(things) - 1, -1, -1):
        while things[place] < 0:
            lend(way, things, lender_above(things, place))
    return things


def times_by_ratio(way, one, other):
    # A row is its figure at place 0 and the ratio times what stands above; so from above, place by place.
    product = []
    for place in range(len(other) - 1, -1, -1):
        above = row_times(product, way.ratio(place))
        product = written_row(way, row_plus(above, row_times(one, other[place])))
    return product


def times_in_falling(way, one, other):
    # What stands at a place goes M times to the one beneath and once to the one beneath that.
    # So what came to place 1 is wanting once at the end: its weight is not M, but M + 1.
    product = []
    ahead = []
    for place in range(len(other) - 1, -1, -1):
        above = row_plus(row_times(product, way.most), ahead)
        ahead = product
        product = written_row(way, row_plus(above, row_times(one, other[place])))
    return written_row(way, row_plus(product, ahead))


def plus(way, one, other):
    held_to_be_writings(way, [one, other])
    return written_row(way, row_plus(one, other))


def minus(way, one, other):
    held_to_be_writings(way, [one, other])
    difference = row_plus(one, row_times(other, -1))
    if isinstance(way, Falling):
        return written_row(way, without_debts(way, difference))
    return written_row(way, difference)


def times(way, one, other):
    held_to_be_writings(way, [one, other])
    if isinstance(way, Falling):
        return times_in_falling(way, one, other)
    return times_by_ratio(way, one, other)
