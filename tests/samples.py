"""Ways and numbers that several tests go through."""

from oddbases.ways import Balanced, Below, Falling, Growing, Pairs, Plain

# Each class with the name of its number, and that number's bounds.
SORTS = (
    (Plain, "base", 2, 60),
    (Below, "base", 2, 60),
    (Balanced, "half", 1, 30),
    (Growing, "first", 2, 60),
    (Falling, "most", 1, 9),
    (Pairs, "most", 1, 9),
)

HUGE = 10 ** 60 + 7
VAST = 3 * 10 ** 298 + 1234567


def numbers_of(sort, least, most):
    if most - least < 10:
        return list(range(least, most + 1))
    return [least, least + 1, 5, 10, 17, most - 1, most]


def ways_of(*sorts):
    return [
        sort(number)
        for sort, name, least, most in SORTS
        if sort in sorts
        for number in numbers_of(sort, least, most)
    ]


def told(way):
    return f"{type(way).__name__} {vars(way)}"
