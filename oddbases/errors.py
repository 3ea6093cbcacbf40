"""The refusals: one class for each, all of them straight under OddError."""


class OddError(ValueError):
    pass


class NoWay(OddError):
    pass


class NoNumber(OddError):
    pass


class NoWriting(OddError):
    pass


class TooLess(OddError):
    pass


class NoRatio(OddError):
    pass


class NoFalling(OddError):
    pass


class NoPairs(OddError):
    pass


class Nought(OddError):
    pass


class NoSpan(OddError):
    pass


class NoTotal(OddError):
    pass


class NoText(OddError):
    pass


class NoRow(OddError):
    pass
