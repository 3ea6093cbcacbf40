"""Machines that read rows of totals, each made of a way and a span of totals."""

from oddbases.errors import NoRatio, NoSpan, NoTotal
from oddbases.pairs import added
from oddbases.ways import Falling, Growing, Pairs


def farthest_total(way):
    if isinstance(way, Pairs):
        return min(60, 2 * way.most * way.most)
    return 60


def held_to_have_one_ratio(way):
    if isinstance(way, (Growing, Falling)):
        raise NoRatio("a machine is made of a way with one ratio for all places")


def held_to_be_a_span(way, low, high):
    farthest = farthest_total(way)
    if low > 0 or high < 0 or low < -farthest or high > farthest:
        raise NoSpan("a span goes from a total at most 0 to one from 0 on, neither of them too far from 0")


def carries_and_rows(way, low, high):
    carries = [way.nought()]
    known = {way.nought(): True}
    rows = []
    # Carries are found while the rows of the earlier ones are made.
    at = 0
    while at < len(carries):
        carry = carries[at]
        for total in range(low, high + 1):
            # The ratio is the same at all places, so what holds at place 0 holds everywhere.
            parts = way.split(added(carry, total), 0)
            rows.append((carry, total, parts[0], parts[1]))
            if parts[1] not in known:
                known[parts[1]] = True
                carries.append(parts[1])
        at += 1
    return (carries, rows)


def leads_of(rows):
    # Where a carry and a total lead: to a figure and the carry behind.
    leads = {}
    for row in rows:
        leads[(row[0], row[1])] = (row[2], row[3])
    return leads


class Machine:
    # The way is not kept: all that a machine needs of it stands in the rows.

    def __init__(self, way, low, high):
        held_to_have_one_ratio(way)
        held_to_be_a_span(way, low, high)
        made = carries_and_rows(way, low, high)
        self.found = made[0]
        self.made = made[1]
        self.leads = leads_of(made[1])

    def carries(self):
        return list(self.found)

    def rows(self):
        return list(self.made)

    def read(self, totals):
        figures = []
        carry = self.found[0]
        for total in totals:
            lead = self.leads.get((carry, total))
            if lead is None:
                raise NoTotal("a total is out of the machine's span")
            figures.append(lead[0])
            carry = lead[1]
        return (figures, carry)
