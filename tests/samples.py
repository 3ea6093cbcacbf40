"""Ways, numbers and rows that several tests go through."""

import random

from oddbases.ways import Balanced, Below, Falling, Growing, Pairs, Plain

# Each class with the name of its number, and that number's bounds.
SORTS = (
    (Plain, "base", 2, 60),
    (Below, "base", 2, 60),
    (Balanced, "half", 1, 30),
    (Growing, "first", 2, 60),
    (Falling, "most", 1, 9),
    (Pairs, "most", 1, 9),
)
ALL = (Plain, Below, Balanced, Growing, Falling, Pairs)
WITH_RATIO = (Plain, Below, Balanced, Growing, Pairs)
WITH_ONE_RATIO = (Plain, Below, Balanced, Pairs)
OF_WHOLES = (Plain, Below, Balanced, Growing, Falling)
FROM_NOUGHT_ON = (Plain, Growing, Falling)

HUGE = 10 ** 60 + 7
VAST = 3 * 10 ** 298 + 1234567


def numbers_of(sort, least, most):
    if most - least < 10:
        return list(range(least, most + 1))
    return [least, least + 1, 5, 10, 17, most - 1, most]


def ways_of(*sorts):
    return [
        sort(number)
        for sort, name, least, most in SORTS
        if sort in sorts
        for number in numbers_of(sort, least, most)
    ]


def told(way):
    return f"{type(way).__name__} {vars(way)}"


def chance_of(seed):
    # The same seed draws the same things each time.
    return random.Random(seed)


def without_end_noughts(row):
    row = list(row)
    while row and row[-1] == 0:
        del row[-1]
    return row


def figures_above(way, place, row):
    # The figures that a place may have in a writing of which the row is what lies beneath.
    figures = range(way.low(place), way.high(place) + 1)
    if isinstance(way, Falling) and row and row[-1] != 0:
        return [figure for figure in figures if figure != way.most]
    return list(figures)


def small_writings(way, least_many):
    # Every writing of at most as many places as it takes to have so many writings.
    rows = [()]
    place = 0
    while len(rows) < least_many:
        rows = [row + (figure,) for row in rows for figure in figures_above(way, place, row)]
        place += 1
    return [without_end_noughts(row) for row in rows]


def drawn_writing(way, places, chance):
    row = []
    for place in range(places):
        row.append(chance.choice(figures_above(way, place, row)))
    if row and row[-1] == 0:
        # In Falling by 1 the last figure can only be 1, and that with 0 beneath.
        row[-2:] = [0, 1][-len(row):]
    return row


def edge_writings(way, places):
    # The figures at their bounds, or all 0 but the last one.
    bounds = []
    for side in (0, -1):
        row = []
        for place in range(places):
            row.append(figures_above(way, place, row)[side])
        bounds.append(without_end_noughts(row))
    return bounds + [[0] * (places - 1) + [1]] if places else [[]]


def writings_for(way, lengths, chance):
    rows = []
    for places in lengths:
        rows += edge_writings(way, places) + [drawn_writing(way, places, chance)]
    return rows


def no_writings(way, places, chance):
    # Rows of so many places, each with one fault: at either end, and at a place between.
    rows = [drawn_writing(way, places - 1, chance) + [0]]
    for place in sorted({0, chance.randrange(places), places - 1}):
        for figure in (way.low(place) - 1, way.high(place) + 1, -HUGE, VAST):
            row = drawn_writing(way, places, chance)
            row[place] = figure
            rows.append(row)
        if isinstance(way, Falling) and place > 0:
            row = drawn_writing(way, places, chance)
            row[place - 1:place + 1] = [chance.randint(1, way.most), way.most]
            rows.append(row)
    return rows


def drawn_thing(chance, figures):
    return chance.randint(-10 ** chance.randint(0, figures), 10 ** chance.randint(0, figures))


def next_weight(way, weights):
    # What the document says of the weight behind these, way by way.
    place = len(weights) - 1
    if isinstance(way, Plain):
        return way.base * weights[-1]
    if isinstance(way, Below):
        return -way.base * weights[-1]
    if isinstance(way, Balanced):
        return (2 * way.half + 1) * weights[-1]
    if isinstance(way, Growing):
        return (way.first + place) * weights[-1]
    if isinstance(way, Pairs):
        x, y = weights[-1]
        return (-way.most * x - y, x - way.most * y)
    if place == 0:
        return way.most + 1
    return way.most * weights[-1] + weights[-2]


def weights_by_hand(way, many):
    weights = [(1, 0) if isinstance(way, Pairs) else 1]
    while len(weights) < many:
        weights.append(next_weight(way, weights))
    return weights[:many]


def worth_by_hand(way, row):
    # In Pairs the row may hold pairs, too.
    weights = weights_by_hand(way, len(row))
    if not isinstance(way, Pairs):
        return sum(thing * weight for thing, weight in zip(row, weights))
    first = second = 0
    for thing, (c, d) in zip(row, weights):
        a, b = thing if isinstance(thing, tuple) else (thing, 0)
        first += a * c - b * d
        second += a * d + b * c
    return (first, second)


def sum_by_hand(one, other):
    if isinstance(one, tuple):
        return (one[0] + other[0], one[1] + other[1])
    return one + other


def difference_by_hand(one, other):
    if isinstance(one, tuple):
        return (one[0] - other[0], one[1] - other[1])
    return one - other


def product_by_hand(one, other):
    if isinstance(one, tuple):
        (a, b), (c, d) = one, other
        return (a * c - b * d, a * d + b * c)
    return one * other


def drawn_totals(way, length, figures, chance):
    things = [drawn_thing(chance, figures) for place in range(length)]
    if not isinstance(way, Pairs):
        return things
    return [chance.choice((thing, (thing, drawn_thing(chance, figures)))) for thing in things]


def totals_for(way, chance):
    # Rows of totals, small and large, some with 0s at their end; the last ones are told by the way itself.
    rows = [[], [0], [0, 0, 0], [1], [-1], [0, -1, 0]]
    for length in (1, 1, 2, 2, 3, 4, 6, 12, 60):
        for figures in (0, 1, 3, 32):
            row = drawn_totals(way, length, figures, chance)
            rows += [row, row + [0] * chance.randint(1, 4)]
    rows.append(drawn_totals(way, 300, 299, chance))
    rows.append(drawn_writing(way, 40, chance))
    if isinstance(way, Pairs):
        rows += [[(0, 0)], [(0, 0), (0, 0)], [0, (0, 0)], [(0, 1)], [(0, -1), 0], [(-HUGE, HUGE)], [5, (1, -1), -7]]
    return rows


def is_too_less(way, row):
    return isinstance(way, (Plain, Growing)) and worth_by_hand(way, row) < 0
