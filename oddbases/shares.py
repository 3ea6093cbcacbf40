"""Writings shared out by whole numbers, figure by figure."""

from oddbases.errors import NoPairs, Nought
from oddbases.ways import Falling, Pairs
from oddbases.writings import held_to_be_writings, written_row


def quotients_by_ratio(way, row, many):
    # From above: what is left at a place goes on to the next one beneath, as many times as the ratio there tells.
    quotients = []
    rest = 0
    for place in range(len(row) - 1, -1, -1):
        total = row[place] + way.ratio(place) * rest
        quotients.append(total // many)
        rest = total % many
    quotients.reverse()
    return (quotients, rest)


def quotients_in_falling(way, row, many):
    # What is left at a place goes M times to the next one beneath and once to the one beneath that.
    quotients = []
    rest = 0
    ahead = 0
    for place in range(len(row) - 1, -1, -1):
        total = row[place] + way.most * rest + ahead
        # The weight at place 1 is M + 1, so what is left there goes to place 0 once more.
        if place == 0:
            total += rest
        quotients.append(total // many)
        ahead = rest
        rest = total % many
    quotients.reverse()
    return (quotients, rest)


def quotients_and_rest(way, row, many):
    if isinstance(way, Falling):
        return quotients_in_falling(way, row, many)
    return quotients_by_ratio(way, row, many)


def shared(way, row, many):
    if isinstance(way, Pairs):
        raise NoPairs("pairs are not shared out")
    held_to_be_writings(way, [row])
    if many < 1:
        raise Nought("a writing is shared out by 1 or more")
    parts = quotients_and_rest(way, row, many)
    return (written_row(way, parts[0]), parts[1])
