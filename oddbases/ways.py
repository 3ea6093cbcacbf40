"""The six ways: their weights and figures, their ratios, their numbers, and how a total is split."""

from oddbases.errors import NoRatio, NoWay
from oddbases.pairs import added, as_pair, is_pair, is_whole, multiplied


def bounded(number, least, most):
    # The number itself is left out of the words: Python refuses to spell out a very long one.
    if not is_whole(number) or number < least or number > most:
        raise NoWay(f"the number of this way goes from {least} to {most}")
    return number


class Way:
    # Here stands what most ways have in common; a way that differs says so in its own class.

    def nought(self):
        return 0

    def low(self, place):
        return 0

    def weights(self, many):
        # Each weight is made of the one ahead, so those of a whole row are reckoned in one go.
        weights = []
        weight = added(self.nought(), 1)
        for place in range(many):
            weights.append(weight)
            weight = multiplied(self.ratio(place), weight)
        return weights

    def weight(self, place):
        return self.weights(place + 1)[place]

    def split(self, total, place):
        # A place has as many figures as its ratio leaves rests, so just one figure has the total's rest.
        low = self.low(place)
        figures = self.high(place) - low + 1
        figure = low + (total - low) % figures
        return (figure, (total - figure) // self.ratio(place))

    def has(self, number):
        return is_whole(number) and number >= 0


class Plain(Way):
    def __init__(self, base):
        self.base = bounded(base, 2, 60)

    def high(self, place):
        return self.base - 1

    def ratio(self, place):
        return self.base


class Below(Way):
    def __init__(self, base):
        self.base = bounded(base, 2, 60)

    def high(self, place):
        return self.base - 1

    def ratio(self, place):
        return -self.base

    def has(self, number):
        return is_whole(number)


class Balanced(Way):
    def __init__(self, half):
        self.half = bounded(half, 1, 30)

    def low(self, place):
        return -self.half

    def high(self, place):
        return self.half

    def ratio(self, place):
        return 2 * self.half + 1

    def has(self, number):
        return is_whole(number)


class Growing(Way):
    def __init__(self, first):
        self.first = bounded(first, 2, 60)

    def high(self, place):
        return self.first + place - 1

    def ratio(self, place):
        return self.first + place


class Falling(Way):
    def __init__(self, most):
        self.most = bounded(most, 1, 9)

    def high(self, place):
        return self.most

    def weights(self, many):
        # With a 1 ahead of place 0, the weight M + 1 at place 1 comes by the same rule as the later ones.
        weights = []
        ahead = 1
        weight = 1
        for place in range(many):
            weights.append(weight)
            following = self.most * weight + ahead
            ahead = weight
            weight = following
        return weights

    def ratio(self, place):
        raise NoRatio("a falling way has no ratio")

    def split(self, total, place):
        raise NoRatio("a falling way has no ratio to split by")


class Pairs(Way):
    def __init__(self, most):
        self.most = bounded(most, 1, 9)

    def nought(self):
        return (0, 0)

    def high(self, place):
        return self.most * self.most

    def ratio(self, place):
        return (-self.most, 1)

    def split(self, total, place):
        pair = as_pair(total)
        figures = self.most * self.most + 1
        # (0, 1) is the ratio and M together, so it leaves the rest M, and (a, b) that of a + M b.
        figure = (pair[0] + self.most * pair[1]) % figures
        # The ratio times (-M, -1) is the count of figures: so dividing by it becomes a product and two whole divisions.
        turned = multiplied((pair[0] - figure, pair[1]), (-self.most, -1))
        return (figure, (turned[0] // figures, turned[1] // figures))

    def has(self, number):
        return is_pair(number)
