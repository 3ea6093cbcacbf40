"""Ways, numbers and writings, shown as texts and read from them."""

from oddbases.errors import NoText, NoWay
from oddbases.pairs import is_pair
from oddbases.ways import Balanced, Below, Falling, Growing, Pairs, Plain
from oddbases.writings import is_writing

FIGURES = "0123456789"


def whole_shown(number):
    if number < 0:
        return "-" + whole_shown(-number)
    # Python refuses to spell out a very long number, so it is spelled in parts of sixty figures.
    limit = 10 ** 60
    parts = []
    rest = number
    while rest >= limit:
        parts.append(str(rest % limit).zfill(60))
        rest = rest // limit
    parts.append(str(rest))
    parts.reverse()
    return "".join(parts)


def number_shown(number):
    if is_pair(number):
        return whole_shown(number[0]) + "," + whole_shown(number[1])
    return whole_shown(number)


def row_shown(row):
    if not row:
        return "0"
    return ".".join([whole_shown(figure) for figure in reversed(row)])


def way_shown(way):
    if isinstance(way, Plain):
        return "plain" + whole_shown(way.base)
    if isinstance(way, Below):
        return "below" + whole_shown(way.base)
    if isinstance(way, Balanced):
        return "balanced" + whole_shown(way.half)
    if isinstance(way, Growing):
        return "growing" + whole_shown(way.first)
    if isinstance(way, Falling):
        return "falling" + whole_shown(way.most)
    return "pairs" + whole_shown(way.most)


def has_figures_alone(text):
    for sign in text:
        if sign not in FIGURES:
            return False
    return True


def whole_read(text):
    figures = text[1:] if text.startswith("-") else text
    if figures == "" or len(figures) > 60 or not has_figures_alone(figures):
        raise NoText("the text writes no whole number of at most sixty figures")
    # Of the numbers with a nought ahead this leaves 0 alone, and not -0.
    if figures[0] == "0" and text != "0":
        raise NoText("a number is written without a nought ahead, and nought without a sign")
    return int(text)


def number_read(text):
    parts = text.split(",")
    if len(parts) == 1:
        return whole_read(text)
    if len(parts) > 2:
        raise NoText("a pair is written as two numbers")
    return (whole_read(parts[0]), whole_read(parts[1]))


def row_read(way, text):
    if text == "0":
        return []
    row = [whole_read(part) for part in text.split(".")]
    row.reverse()
    if not is_writing(way, row):
        raise NoText("the text writes no writing of the way")
    return row


def way_made(name, number):
    if name == "plain":
        return Plain(number)
    if name == "below":
        return Below(number)
    if name == "balanced":
        return Balanced(number)
    if name == "growing":
        return Growing(number)
    if name == "falling":
        return Falling(number)
    if name == "pairs":
        return Pairs(number)
    raise NoText("no way has this name")


def way_read(text):
    name = text.rstrip(FIGURES)
    number = whole_read(text[len(name):])
    try:
        return way_made(name, number)
    except NoWay:
        raise NoText("the way has no such number behind its name") from None
