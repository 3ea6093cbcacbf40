"""Heaps of a falling way, and the steps by which they become writings."""

from oddbases.errors import NoFalling, TooLess
from oddbases.rows import trimmed
from oddbases.ways import Falling
from oddbases.writings import worth, written


def held_to_be_a_heap(way, heap):
    if not isinstance(way, Falling):
        raise NoFalling("heaps have steps in a falling way alone")
    for things in heap:
        if things < 0:
            raise TooLess("a heap has no things below 0")


def changes(way, step):
    # What comes at each place; what goes is told below 0.
    kind = step[0]
    place = step[1]
    if kind == "up":
        return [(place + 1, 1), (place, -way.most), (place - 1, -1)]
    parted = [(place + 1, 1), (place, -way.most - 1)]
    if place == 1:
        parted.append((0, way.most))
    if place > 1:
        parted.append((place - 1, way.most - 1))
        parted.append((place - 2, 1))
    return parted


def behind_step(way, heap, step):
    after = list(heap)
    while len(after) < step[1] + 2:
        after.append(0)
    for place, things in changes(way, step):
        after[place] += things
    return trimmed(after)


def step_at(way, heap, place):
    # An up makes the heap smaller, a part mostly doesn't: with ups first there are fewer steps.
    if place > 0 and heap[place] >= way.most and heap[place - 1] > 0:
        return ("up", place)
    if heap[place] > way.most:
        return ("part", place)
    return None


def steps(way, heap):
    # Why this ends: count a thing at place k as k + 1; where the most is 1, as 7 at place 0 and else as 4 k + 8.
    # Every step makes that count less. And where no step can be done any more, the heap is a writing.
    held_to_be_a_heap(way, heap)
    done = []
    left = heap
    place = len(left) - 1
    while place >= 0:
        step = step_at(way, left, place)
        if step is None:
            place -= 1
        else:
            done.append(step)
            left = behind_step(way, left, step)
            # A step at a place opens none further above than two places.
            place = min(place + 2, len(left) - 1)
    return done


def stepped(way, heap, step):
    held_to_be_a_heap(way, heap)
    return behind_step(way, heap, step)


def fallen(way, heap):
    # Every step leaves the worth as it was, and a number has just one writing: so no step need be done.
    held_to_be_a_heap(way, heap)
    return written(way, worth(way, heap))
