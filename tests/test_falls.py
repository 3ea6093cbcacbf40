"""[13] Heaps and the steps that change them; [14] how every heap becomes a writing."""

import itertools
import unittest

from oddbases.errors import NoFalling, TooLess
from oddbases.falls import fallen, stepped, steps
from oddbases.ways import Falling, Plain
from oddbases.writings import is_writing, written
from refusals import RefusalCase
from samples import (
    HUGE, VAST, WITH_RATIO, chance_of, drawn_writing, told, ways_of, without_end_noughts, worth_by_hand,
)


def heap_of(places, things, chance):
    heap = [0] * places
    for thing in range(things):
        heap[chance.randrange(places)] += 1
    return heap


def heaps_for(way, chance):
    most = way.most
    heaps = [[], [0], [0, 0], [most], [most + 1], [1, most], [0, most + 1], [0, 0, most + 1], [0, 1, most, 0]]
    heaps += [list(row) for row in itertools.product((0, 1, most, most + 1, 2 * most + 3), repeat=3)]
    heaps += [heap_of(places, places * most, chance) + [0] * (places % 3) for places in range(1, 20)]
    heaps += [[1] * 9, [most] * 9, [most + 1] * 30, [most, 1] * 15, [0, 500], [0] * 40 + [300], [700, 0, 0, 0, 200]]
    heaps += [drawn_writing(way, places, chance) for places in (1, 2, 9, 50)]
    return heaps


def large_heaps(chance):
    return [[2000], [0] * 299 + [2000], [6] * 300, heap_of(300, 2000, chance), heap_of(7, 2000, chance)]


def can_be_done(way, heap, step):
    sort, place = step
    if sort == "up":
        return 1 <= place < len(heap) and heap[place] >= way.most and heap[place - 1] >= 1
    return sort == "part" and 0 <= place < len(heap) and heap[place] >= way.most + 1


def done_by_hand(way, heap, step):
    sort, place = step
    after = dict(enumerate(heap + [0, 0]))
    after[place + 1] += 1
    if sort == "up":
        after[place] -= way.most
        after[place - 1] -= 1
    else:
        after[place] -= way.most + 1
        if place >= 2:
            after[place - 1] += way.most - 1
            after[place - 2] += 1
        if place == 1:
            after[0] += way.most
    return without_end_noughts(after.values())


class Stepped(unittest.TestCase):
    def test_known_steps(self):
        known = (
            (Falling(1), [1, 1], ("up", 1), [0, 0, 1]),
            (Falling(1), [0, 1, 1], ("up", 2), [0, 0, 0, 1]),
            (Falling(1), [2], ("part", 0), [0, 1]),
            (Falling(1), [0, 2], ("part", 1), [1, 0, 1]),
            (Falling(1), [0, 0, 2], ("part", 2), [1, 0, 0, 1]),
            (Falling(1), [0, 0, 0, 3, 0, 0], ("part", 3), [0, 1, 0, 1, 1]),
            (Falling(3), [2, 3], ("up", 1), [1, 0, 1]),
            (Falling(3), [5, 0, 0], ("part", 0), [1, 1]),
            (Falling(3), [1, 4], ("part", 1), [4, 0, 1]),
            (Falling(3), [0, 0, 4], ("part", 2), [1, 2, 0, 1]),
            (Falling(9), [1, 0, 12, 0, 7, 0], ("part", 2), [2, 8, 2, 1, 7]),
            (Falling(9), [1, 1, 9, 0, 0, 0], ("up", 2), [1, 0, 0, 1]),
        )
        for way, heap, step, wanted in known:
            with self.subTest(way=told(way), heap=heap, step=step):
                handed = list(heap)
                self.assertEqual(stepped(way, handed, step), wanted)
                self.assertEqual(handed, heap)
                self.assertEqual(worth_by_hand(way, heap), worth_by_hand(way, wanted))

    def test_every_step_that_can_be_done(self):
        chance = chance_of(13)
        for way in ways_of(Falling):
            for heap in heaps_for(way, chance):
                with self.subTest(way=told(way), heap=heap):
                    self.assert_stepped(way, heap)

    def assert_stepped(self, way, heap):
        for step in itertools.product(("up", "part"), range(len(heap))):
            if can_be_done(way, heap, step):
                handed = list(heap)
                after = stepped(way, handed, step)
                self.assertEqual(after, done_by_hand(way, heap, step))
                self.assertEqual(handed, heap)
                self.assertEqual(worth_by_hand(way, after), worth_by_hand(way, heap))
                self.assertNotEqual(after[-1], 0)

    def test_a_list_told_is_the_askers_own(self):
        for way in ways_of(Falling):
            with self.subTest(way=told(way)):
                heap = [way.most + 1, 0]
                after = stepped(way, heap, ("part", 0))
                self.assertEqual(after, [0, 1])
                after[0] = 5
                self.assertEqual(heap, [way.most + 1, 0])
                self.assertEqual(stepped(way, heap, ("part", 0)), [0, 1])


class Steps(unittest.TestCase):
    def test_by_its_steps_every_heap_becomes_a_writing(self):
        chance = chance_of(14)
        for way in ways_of(Falling):
            for heap in heaps_for(way, chance) + large_heaps(chance):
                with self.subTest(way=told(way), heap=heap):
                    self.assert_steps(way, heap)

    def assert_steps(self, way, heap):
        handed = list(heap)
        told_steps = steps(way, handed)
        self.assertIs(type(told_steps), list)
        after = without_end_noughts(heap)
        for step in told_steps:
            self.assert_step(step)
            self.assertTrue(can_be_done(way, after, step))
            after = done_by_hand(way, after, step)
        self.assertTrue(is_writing(way, after))
        self.assertEqual(fallen(way, handed), after)
        self.assertEqual(after, written(way, worth_by_hand(way, heap)))
        self.assertEqual(handed, heap)

    def assert_step(self, step):
        self.assertIs(type(step), tuple)
        self.assertEqual([type(thing) for thing in step], [str, int])

    def test_each_step_leaves_the_worth_as_it_was(self):
        chance = chance_of(140)
        for way in ways_of(Falling):
            for heap in (heap_of(20, 400, chance), heap_of(60, 200, chance) + [0, 0], [100], [0, 0, 0, 90]):
                with self.subTest(way=told(way), heap=heap):
                    number = worth_by_hand(way, heap)
                    after = heap
                    for step in steps(way, heap):
                        after = stepped(way, after, step)
                        self.assertEqual(worth_by_hand(way, after), number)
                    self.assertEqual(without_end_noughts(after), fallen(way, heap))

    def test_every_small_heap(self):
        for way in (Falling(1), Falling(2), Falling(3)):
            for length in range(6):
                for heap in itertools.product(range(4), repeat=length):
                    with self.subTest(way=told(way), heap=heap):
                        self.assert_steps(way, list(heap))

    def test_a_writing_has_no_steps(self):
        chance = chance_of(141)
        for way in ways_of(Falling):
            for places in (0, 1, 2, 3, 10, 300):
                row = drawn_writing(way, places, chance)
                for many in (0, 1, 5):
                    with self.subTest(way=told(way), row=row, many=many):
                        self.assertEqual(steps(way, row + [0] * many), [])
                        self.assertEqual(fallen(way, row + [0] * many), row)

    def test_for_one_heap_they_are_the_same_each_time(self):
        chance = chance_of(142)
        for way in ways_of(Falling):
            heaps = heaps_for(way, chance)
            first = [steps(way, list(heap)) for heap in heaps]
            for heap, wanted in reversed(list(zip(heaps, first))):
                with self.subTest(way=told(way), heap=heap):
                    self.assertEqual(steps(Falling(way.most), list(heap)), wanted)

    def test_a_list_told_is_the_askers_own(self):
        for way in ways_of(Falling):
            for heap in ([], [1], [way.most + 1, 3, 4], [1, way.most]):
                with self.subTest(way=told(way), heap=heap):
                    self.assert_own(steps, way, heap, ("up", 1))
                    self.assert_own(fallen, way, heap, 1)

    def assert_own(self, asked, way, heap, thing):
        handed = list(heap)
        answer = asked(way, handed)
        wanted = list(answer)
        answer.append(thing)
        answer[0] = thing
        self.assertEqual(handed, heap)
        self.assertEqual(asked(way, handed), wanted)


class Fallen(unittest.TestCase):
    def test_known_heaps(self):
        known = (
            (Falling(1), [4], [1, 0, 1]),
            (Falling(1), [1, 1], [0, 0, 1]),
            (Falling(1), [0, 0, 0, 2], [0, 1, 0, 0, 1]),
            (Falling(1), [1, 1, 1, 1, 1], [1, 0, 0, 1, 0, 1]),
            (Falling(2), [1, 2], [0, 0, 1]),
            (Falling(2), [3, 0, 0], [0, 1]),
            (Falling(9), [91], [0, 0, 1]),
            (Falling(9), [90, 0], [0, 9]),
        )
        for way, heap, wanted in known:
            with self.subTest(way=told(way), heap=heap):
                self.assertEqual(fallen(way, heap), wanted)


class RefusedHeaps(RefusalCase):
    def assert_all_refused(self, wanted, way, heap):
        handed = list(heap)
        self.assert_refused(wanted, steps, way, handed)
        self.assert_refused(wanted, fallen, way, handed)
        self.assertEqual(handed, heap)

    def test_a_thing_below_nought(self):
        rows = ([-1], [0, -1], [-1, 5], [9, 9, -1, 9], [5, -1, 0], [-HUGE, 3], [7, -VAST], [1] * 299 + [-1])
        for way in ways_of(Falling):
            for heap in rows:
                with self.subTest(way=told(way), heap=heap):
                    self.assert_all_refused(TooLess, way, heap)

    def test_a_heap_for_one_step_is_held_likewise(self):
        for way in ways_of(Falling):
            with self.subTest(way=told(way)):
                self.assert_refused(TooLess, stepped, way, [10, 0, -1], ("part", 0))
        for way in ways_of(*WITH_RATIO):
            with self.subTest(way=told(way)):
                self.assert_refused(NoFalling, stepped, way, [100, 0, -1], ("part", 0))

    def test_the_other_ways(self):
        heaps = ([], [0], [1], [1, 0, 1], [60, 70], [-1], [2, -HUGE], [VAST] * 3)
        for way in ways_of(*WITH_RATIO):
            for heap in heaps:
                with self.subTest(way=told(way), heap=heap):
                    self.assert_all_refused(NoFalling, way, heap)

    def test_what_is_right_is_answered_behind_a_refusal_as_ahead_of_it(self):
        for way in ways_of(Falling):
            with self.subTest(way=told(way)):
                heap = [30, 20, 10]
                ahead = (steps(way, heap), fallen(way, heap))
                self.assert_all_refused(TooLess, way, [30, 20, -10])
                self.assert_all_refused(NoFalling, Plain(2), heap)
                self.assertEqual((steps(way, heap), fallen(way, heap)), ahead)


if __name__ == "__main__":
    unittest.main()
