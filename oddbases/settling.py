"""Rows of totals settled to writings by carries."""

from oddbases.errors import NoRatio, TooLess
from oddbases.pairs import added
from oddbases.rows import thing_at, trimmed
from oddbases.ways import Falling


def figures_and_carries(way, totals):
    # A row of nothing never comes to a split, so Falling is refused here.
    if isinstance(way, Falling):
        raise NoRatio("a falling way has no ratio to settle by")
    figures = []
    carry = way.nought()
    found = [carry]
    while len(figures) < len(totals) or carry != way.nought():
        place = len(figures)
        # Behind the row's end the carry is all that is left to write; one that the way has not would never end.
        if place >= len(totals) and not way.has(carry):
            raise TooLess("the row's worth is below 0")
        parts = way.split(added(carry, thing_at(totals, place)), place)
        figures.append(parts[0])
        carry = parts[1]
        found.append(carry)
    return (figures, found)


def settled(way, totals):
    return trimmed(figures_and_carries(way, totals)[0])


def carries(way, totals):
    return figures_and_carries(way, totals)[1]
