"""Whole numbers and pairs of them, added and multiplied together."""


def is_whole(value):
    # Python counts a truth among its ints; here it is no whole number.
    return isinstance(value, int) and not isinstance(value, bool)


def is_pair(value):
    return isinstance(value, tuple) and len(value) == 2 and is_whole(value[0]) and is_whole(value[1])


def as_pair(number):
    if is_whole(number):
        return (number, 0)
    return number


def added(one, other):
    if is_whole(one) and is_whole(other):
        return one + other
    left = as_pair(one)
    right = as_pair(other)
    return (left[0] + right[0], left[1] + right[1])


def multiplied(one, other):
    if is_whole(one) and is_whole(other):
        return one * other
    left = as_pair(one)
    right = as_pair(other)
    return (left[0] * right[0] - left[1] * right[1], left[0] * right[1] + left[1] * right[0])
