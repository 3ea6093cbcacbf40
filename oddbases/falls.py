"""Heaps of a falling way, and the steps by which they become writings."""

from oddbases.errors import NoFalling, TooLess
from oddbases.rows import trimmed
from oddbases.ways import Falling


def held_to_be_a_heap(way, heap):
    if not isinstance(way, Falling):
        raise NoFalling("heaps have steps in a falling way alone")
    for things in heap:
        if things < 0:
            raise TooLess("a heap has no things below 0")


def changes(way, step):
    # What comes at each place; what goes is told below 0.
    kind = step[0]
    place = step[1]
    if kind == "up":
        return [(place + 1, 1), (place, -way.most), (place - 1, -1)]
    parted = [(place + 1, 1), (place, -way.most - 1)]
    if place == 1:
        parted.append((0, way.most))
    if place > 1:
        parted.append((place - 1, way.most - 1))
        parted.append((place - 2, 1))
    return parted


def do_steps(way, heap, step, many):
    while len(heap) < step[1] + 2:
        heap.append(0)
    for place, things in changes(way, step):
        heap[place] += many * things


def step_at(way, heap, place):
    # An up makes the heap smaller, a part mostly doesn't: with ups first there are fewer steps.
    if place > 0 and heap[place] >= way.most and heap[place - 1] > 0:
        return ("up", place)
    if heap[place] > way.most:
        return ("part", place)
    return None


def how_often(way, heap, step):
    # No more than can be done one behind the other.
    place = step[1]
    if step[0] == "up":
        return min(heap[place] // way.most, heap[place - 1])
    return heap[place] // (way.most + 1)


def steps_and_writing(way, heap):
    # Why this ends: count a thing at place k as k + 1; where the most is 1, as 7 at place 0 and else as 4 k + 8.
    # Every step makes that count less. And where no step can be done any more, the heap is a writing.
    held_to_be_a_heap(way, heap)
    done = []
    left = list(heap)
    place = len(left) - 1
    while place >= 0:
        step = step_at(way, left, place)
        if step is None:
            place -= 1
        else:
            # A step goes as often as it can at once: else heaps of many things take far longer.
            many = how_often(way, left, step)
            done.extend([step] * many)
            do_steps(way, left, step, many)
            # A step at a place opens none further above than two places.
            place = min(place + 2, len(left) - 1)
    return (done, trimmed(left))


def steps(way, heap):
    return steps_and_writing(way, heap)[0]


def stepped(way, heap, step):
    held_to_be_a_heap(way, heap)
    after = list(heap)
    do_steps(way, after, step, 1)
    return trimmed(after)


def fallen(way, heap):
    return steps_and_writing(way, heap)[1]
