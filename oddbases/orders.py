"""Which of two writings stands for the lesser number, told by their figures alone."""

from oddbases.errors import NoPairs
from oddbases.rows import thing_at
from oddbases.ways import Below, Pairs
from oddbases.writings import held_to_be_writings


def parting(one, other):
    for place in range(max(len(one), len(other)) - 1, -1, -1):
        if thing_at(one, place) != thing_at(other, place):
            return place
    return None


def order(way, one, other):
    if isinstance(way, Pairs):
        raise NoPairs("pairs have no order")
    held_to_be_writings(way, [one, other])
    place = parting(one, other)
    if place is None:
        return 0
    more = thing_at(one, place) > thing_at(other, place)
    # In Below the weights at odd places are below 0.
    if isinstance(way, Below) and place % 2 == 1:
        more = not more
    return 1 if more else -1
