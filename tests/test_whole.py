"""[3] What is promised over the whole program, and [2], where several files meet."""

import unittest

from oddbases.desk import said
from oddbases.errors import NoNumber, TooLess
from oddbases.falls import fallen, stepped, steps
from oddbases.machines import Machine
from oddbases.moving import moved
from oddbases.orders import order
from oddbases.pairs import added, multiplied
from oddbases.settling import carries, settled
from oddbases.shares import shared
from oddbases.sums import minus, plus, times
from oddbases.texts import number_read, number_shown, row_read, row_shown, way_read, way_shown
from oddbases.ways import Balanced, Below, Falling, Growing, Pairs, Plain
from oddbases.writings import is_writing, worth, written
from owned import OwnedCase
from refusals import RefusalCase
from samples import (
    ALL, FROM_NOUGHT_ON, HUGE, OF_WHOLES, SORTS, WITH_ONE_RATIO, WITH_RATIO, chance_of, difference_by_hand,
    drawn_thing, drawn_writing, is_too_less, product_by_hand, sum_by_hand, told, ways_of, without_end_noughts,
    worth_by_hand, writings_for,
)
from spelling import spelled_number, spelled_row, spelled_way

ENDS = tuple(sort(number) for sort, name, least, most in SORTS for number in (least, (least + most) // 3, most))


def padded(one, other):
    length = max(len(one), len(other))
    return zip(one + [0] * (length - len(one)), other + [0] * (length - len(other)))


def row_of_sums(one, other):
    return [first + second for first, second in padded(one, other)]


def row_of_differences(one, other):
    return [first - second for first, second in padded(one, other)]


def row_of_products(one, other):
    # Where the ratio is the same at all places, the weights of two places make that of both places together.
    row = [0] * (len(one) + len(other))
    for place, first in enumerate(one):
        for more, second in enumerate(other):
            row[place + more] += first * second
    return row


def figures_by_carries(way, totals):
    # What the short equation of each place leaves for the figure; in Pairs as a pair.
    told_carries = carries(way, totals)
    figures = []
    for place, (ahead, behind) in enumerate(zip(told_carries, told_carries[1:])):
        total = totals[place] if place < len(totals) else 0
        figures.append(added(added(ahead, total), multiplied(-1, multiplied(way.ratio(place), behind))))
    return figures


def figures_wanted(way, writing, many):
    figures = writing + [0] * (many - len(writing))
    return [(figure, 0) for figure in figures] if isinstance(way, Pairs) else figures


class CarriesAndSteps(RefusalCase):
    def assert_led(self, way, totals, asked, one, other):
        with self.subTest(asked=asked.__name__, way=told(way), one=one, other=other):
            if is_too_less(way, totals):
                self.assert_refused(TooLess, carries, way, totals)
                self.assert_refused(TooLess, asked, way, one, other)
            else:
                answer = asked(way, one, other)
                figures = figures_by_carries(way, totals)
                self.assertEqual(figures, figures_wanted(way, answer, len(figures)))
                self.assertEqual(settled(way, totals), answer)

    def test_carries_lead_to_sums_and_differences(self):
        chance = chance_of(30)
        for way in ways_of(*WITH_RATIO):
            for one in writings_for(way, (0, 1, 2, 9, 60), chance):
                for other in ([], one, drawn_writing(way, chance.randint(0, 60), chance)):
                    self.assert_led(way, row_of_sums(one, other), plus, one, other)
                    self.assert_led(way, row_of_differences(one, other), minus, one, other)

    def test_carries_lead_to_products(self):
        chance = chance_of(31)
        for way in ways_of(*WITH_ONE_RATIO):
            for one in writings_for(way, (0, 1, 2, 9, 24), chance):
                for other in ([], one, drawn_writing(way, chance.randint(0, 24), chance)):
                    self.assert_led(way, row_of_products(one, other), times, one, other)

    def test_carries_lead_to_products_in_growing(self):
        chance = chance_of(32)
        for way in ways_of(Growing):
            for one in writings_for(way, (0, 1, 2, 9), chance):
                other = drawn_writing(way, 9, chance)
                totals = [thing * worth_by_hand(way, other) for thing in one]
                self.assert_led(way, totals, times, one, other)

    def test_steps_lead_to_sums_in_falling(self):
        chance = chance_of(33)
        for way in ways_of(Falling):
            for one in writings_for(way, (0, 1, 2, 9, 60), chance):
                other = drawn_writing(way, chance.randint(0, 60), chance)
                with self.subTest(way=told(way), one=one, other=other):
                    heap = row_of_sums(one, other)
                    left = heap
                    for step in steps(way, heap):
                        left = stepped(way, left, step)
                    self.assertEqual(without_end_noughts(left), plus(way, one, other))
                    self.assertEqual(fallen(way, heap), plus(way, one, other))


class MachinesAndSettling(RefusalCase):
    def test_a_machine_of_figures_reads_sums_and_differences(self):
        chance = chance_of(34)
        for way in (Plain(2), Plain(10), Plain(30), Below(2), Below(30), Balanced(1), Balanced(30), Pairs(1), Pairs(5)):
            figures = (way.low(0), way.high(0))
            adding = Machine(way, min(2 * figures[0], 0), 2 * figures[1])
            taking = Machine(way, figures[0] - figures[1], figures[1] - figures[0])
            for one in writings_for(way, (0, 1, 2, 9, 100), chance):
                other = drawn_writing(way, chance.randint(0, 100), chance)
                with self.subTest(way=told(way), one=one, other=other):
                    self.assert_read(adding, way, row_of_sums(one, other), plus, one, other)
                    self.assert_read(taking, way, row_of_differences(one, other), minus, one, other)

    def assert_read(self, machine, way, totals, asked, one, other):
        figures, carry = machine.read(totals + [0] * 40)
        if is_too_less(way, totals):
            self.assertLess(carry, 0)
            self.assert_refused(TooLess, asked, way, one, other)
        else:
            self.assertEqual(carry, (0, 0) if isinstance(way, Pairs) else 0)
            self.assertEqual(without_end_noughts(figures), asked(way, one, other))
            self.assertEqual(without_end_noughts(figures), settled(way, totals))

    def test_the_carries_of_settling_are_carries_of_the_machine(self):
        chance = chance_of(35)
        for way in ways_of(*WITH_ONE_RATIO):
            most = min(60, 2 * way.most ** 2) if isinstance(way, Pairs) else 60
            machine = Machine(way, -most, most)
            known = machine.carries()
            for length in (0, 1, 5, 50):
                totals = [chance.randint(-most, most) for place in range(length)]
                if not is_too_less(way, totals):
                    with self.subTest(way=told(way), totals=totals):
                        found = carries(way, totals)
                        self.assertEqual([carry for carry in found if carry not in known], [])
                        self.assertEqual(machine.read(totals)[1], found[length])


class OrdersAndMoving(RefusalCase):
    def test_orders_agree_with_worths_and_with_moved_writings(self):
        chance = chance_of(36)
        whole_ends = [way for way in ENDS if isinstance(way, OF_WHOLES)]
        for way in whole_ends:
            rows = writings_for(way, (0, 1, 2, 9, 10), chance)
            for one in rows:
                other = chance.choice(rows)
                for there in chance.sample(whole_ends, 3):
                    with self.subTest(way=told(way), one=one, other=other, there=told(there)):
                        self.assert_agree(way, one, other, there)

    def assert_agree(self, way, one, other, there):
        first, second = worth(way, one), worth(way, other)
        self.assertEqual(order(way, one, other), (first > second) - (first < second))
        if isinstance(there, FROM_NOUGHT_ON) and min(first, second) < 0:
            self.assert_refused(NoNumber, moved, way, one if first < 0 else other, there)
        else:
            self.assertEqual(order(there, moved(way, one, there), moved(way, other, there)), order(way, one, other))

    def test_the_order_tells_which_difference_is_refused(self):
        chance = chance_of(37)
        for way in ways_of(*FROM_NOUGHT_ON):
            rows = writings_for(way, (0, 1, 2, 9, 10), chance)
            for one in rows:
                for other in chance.sample(rows, 5):
                    with self.subTest(way=told(way), one=one, other=other):
                        if order(way, one, other) < 0:
                            self.assert_refused(TooLess, minus, way, one, other)
                        else:
                            self.assertEqual(plus(way, minus(way, one, other), other), one)

    def test_reckoning_moved_is_reckoning_there(self):
        chance = chance_of(38)
        for way in ENDS:
            for there in chance.sample([end for end in ENDS if isinstance(end, (Below, Balanced, Pairs))], 3):
                for asked in (plus, times):
                    whole = [drawn_thing(chance, 20) for often in range(2)]
                    one, other = [written(way, (abs(n), 0) if isinstance(way, Pairs) else abs(n)) for n in whole]
                    with self.subTest(way=told(way), there=told(there), asked=asked.__name__, whole=whole):
                        answer = moved(way, asked(way, one, other), there)
                        self.assertEqual(asked(there, moved(way, one, there), moved(way, other, there)), answer)

    def test_a_share_put_together_again(self):
        chance = chance_of(39)
        for way in ways_of(*OF_WHOLES):
            for row in writings_for(way, (0, 1, 2, 9, 30), chance):
                many = chance.randint(1, 10 ** chance.randint(1, 12))
                with self.subTest(way=told(way), row=row, many=many):
                    quotient, rest = shared(way, row, many)
                    back = plus(way, times(way, quotient, written(way, many)), written(way, rest))
                    self.assertEqual(back, row)


class WalksOfWords(RefusalCase):
    def test_what_is_answered_goes_on_as_plain_reckoning_does(self):
        chance = chance_of(40)
        for start in ENDS:
            with self.subTest(start=told(start)):
                self.walk(start, chance)

    def walk(self, way, chance):
        number = (3, 0) if isinstance(way, Pairs) else 3
        text = said(f"write {spelled_way(way)} {spelled_number(number)}")
        for often in range(25):
            word = chance.choice(("plus", "minus", "times", "share", "move"))
            if word == "move":
                way, number, text = self.moved_on(way, number, text, chance)
            elif word == "share":
                number, text = self.shared_on(way, number, text, chance)
            else:
                number, text = self.reckoned_on(word, way, number, text, chance)
            self.assertEqual(said(f"worth {spelled_way(way)} {text}"), spelled_number(number))
            self.assertEqual(row_shown(row_read(way_read(spelled_way(way)), text)), text)

    def moved_on(self, way, number, text, chance):
        there = chance.choice(ENDS)
        whole, second = number if isinstance(number, tuple) else (number, 0)
        row = f"move {spelled_way(way)} {text} {spelled_way(there)}"
        if not isinstance(there, Pairs) and (second != 0 or whole < 0 and isinstance(there, FROM_NOUGHT_ON)):
            self.assert_refused(NoNumber, said, row)
            return (way, number, text)
        return (there, (whole, second) if isinstance(there, Pairs) else whole, said(row))

    def shared_on(self, way, number, text, chance):
        if isinstance(way, Pairs):
            return (number, text)
        many = chance.randint(1, 10 ** chance.randint(1, 20))
        answer, rest = said(f"share {spelled_way(way)} {text} {many}").split(" ")
        self.assertEqual(rest, str(number % many))
        return (number // many, answer)

    def reckoned_on(self, word, way, number, text, chance):
        by_hand = {"plus": sum_by_hand, "minus": difference_by_hand, "times": product_by_hand}[word]
        row = drawn_writing(way, chance.randint(0, 6), chance)
        after = by_hand(number, worth_by_hand(way, row))
        asked = f"{word} {spelled_way(way)} {text} {spelled_row(row)}"
        if isinstance(way, FROM_NOUGHT_ON) and after < 0:
            self.assert_refused(TooLess, said, asked)
            return (number, text)
        return (after, said(asked))

    def test_numbers_told_by_words_are_those_of_the_functions(self):
        chance = chance_of(41)
        for way in ENDS:
            row = drawn_writing(way, 20, chance)
            with self.subTest(way=told(way), row=row):
                number = worth(way, row)
                self.assertEqual(said(f"worth {way_shown(way)} {row_shown(row)}"), number_shown(number))
                small = drawn_writing(way, 8, chance)
                told_number = number_read(number_shown(worth(way, small)))
                self.assertEqual(written(way_read(way_shown(way)), told_number), small)


class Owned(OwnedCase):
    def test_every_function_leaves_what_is_handed_in(self):
        chance = chance_of(42)
        for way in ENDS:
            one = drawn_writing(way, 9, chance)
            with self.subTest(way=told(way), one=one):
                for asked in (plus, times, minus):
                    self.assert_owned(asked, way, list(one), list(one))
                for asked in (is_writing, worth):
                    self.assert_owned(asked, way, list(one))
                self.assert_owned(moved, way, list(one), way)
                self.assert_owned(row_shown, list(one))
                if isinstance(way, Falling):
                    self.assert_owned(steps, way, [5, 4, 3] + one)
                    self.assert_owned(fallen, way, [5, 4, 3] + one)
                else:
                    self.assert_owned(settled, way, [HUGE, 4] + one)
                    self.assert_owned(carries, way, [HUGE, 4] + one)

    def test_a_way_stays_whatever_is_asked_of_it(self):
        chance = chance_of(43)
        for way in ENDS:
            with self.subTest(way=told(way)):
                before = dict(vars(way))
                one = drawn_writing(way, 9, chance)
                for asked in (plus, times, minus):
                    asked(way, one, one)
                moved(way, one, Pairs(2))
                way_shown(way)
                if isinstance(way, WITH_ONE_RATIO):
                    Machine(way, -1, 1).read([1, 0, -1])
                self.assertEqual(vars(way), before)

    def test_answers_do_not_hang_on_what_was_asked_ahead(self):
        chance = chance_of(44)
        rows = [(way, drawn_writing(way, 12, chance), drawn_writing(way, 7, chance)) for way in ENDS]
        first = [(plus(*row), times(*row), moved(row[0], row[1], Pairs(1))) for row in rows]
        again = [(plus(*row), times(*row), moved(row[0], row[1], Pairs(1))) for row in reversed(rows)]
        self.assertEqual(first, again[::-1])

    def test_what_was_told_may_be_handed_in_again_whatever_its_size(self):
        for way in [sort(number) for sort in ALL for number in (2, 9)]:
            with self.subTest(way=told(way)):
                row = drawn_writing(way, 60, chance_of(45))
                while len(row) <= 300:
                    row = times(way, row, row)
                self.assertEqual(written(way, worth(way, row)), row)
                self.assertEqual(row_read(way, row_shown(row)), row)
                self.assertEqual(moved(Pairs(9), moved(way, row, Pairs(9)), way), row)
                self.assertEqual(said(f"plus {spelled_way(way)} {row_shown(row)} 0"), row_shown(row))
                self.assertEqual(said(f"worth {spelled_way(way)} {row_shown(row)}"), number_shown(worth(way, row)))


if __name__ == "__main__":
    unittest.main()
