"""Rows of things: what several files ask of them."""


def thing_at(row, place):
    if place < len(row):
        return row[place]
    return 0


def trimmed(row):
    # A new list always: what is told is the asker's own.
    things = list(row)
    while things and things[-1] == 0:
        things.pop()
    return things
