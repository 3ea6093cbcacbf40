"""Rows of words, answered."""

from oddbases.errors import NoRow
from oddbases.moving import moved
from oddbases.orders import order
from oddbases.shares import shared
from oddbases.sums import minus, plus, times
from oddbases.texts import number_read, number_shown, row_read, row_shown, way_read, whole_read
from oddbases.writings import worth, written

# How many words a row has that begins so.
COUNTS = {"write": 3, "worth": 3, "plus": 4, "minus": 4, "times": 4, "share": 4, "order": 4, "move": 4}


def words_of(row):
    words = row.split(" ")
    # Between two blanks, and beyond one at an end, there is a word of nothing.
    if "" in words or COUNTS.get(words[0]) != len(words):
        raise NoRow("the row is none of those that are answered")
    return words


def share_said(way, writing, many):
    parts = shared(way, writing, many)
    return row_shown(parts[0]) + " " + number_shown(parts[1])


def order_said(way, one, other):
    told = order(way, one, other)
    if told < 0:
        return "less"
    if told > 0:
        return "more"
    return "same"


def reckoning_said(asked, way, one, other):
    if asked == "plus":
        return row_shown(plus(way, one, other))
    if asked == "minus":
        return row_shown(minus(way, one, other))
    if asked == "times":
        return row_shown(times(way, one, other))
    return order_said(way, one, other)


def writing_said(words, way, writing):
    if words[0] == "worth":
        return number_shown(worth(way, writing))
    if words[0] == "share":
        return share_said(way, writing, whole_read(words[3]))
    if words[0] == "move":
        return row_shown(moved(way, writing, way_read(words[3])))
    return reckoning_said(words[0], way, writing, row_read(way, words[3]))


def said(row):
    words = words_of(row)
    way = way_read(words[1])
    if words[0] == "write":
        return row_shown(written(way, number_read(words[2])))
    return writing_said(words, way, row_read(way, words[2]))
