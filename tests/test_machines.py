"""[19] What a machine is made of; [20] its carries and rows; [21] how it reads; [3] (e) it reads as settling does."""

import unittest

from oddbases.errors import NoRatio, NoSpan, NoTotal, TooLess
from oddbases.machines import Machine
from oddbases.settling import settled
from oddbases.ways import Balanced, Below, Falling, Growing, Pairs, Plain
from owned import OwnedCase
from refusals import RefusalCase
from samples import (
    HUGE, VAST, WITH_ONE_RATIO, chance_of, product_by_hand, sum_by_hand, told, ways_of, without_end_noughts,
    worth_by_hand,
)


def farthest(way):
    return min(60, 2 * way.most ** 2) if isinstance(way, Pairs) else 60


def spans_of(way):
    most = farthest(way)
    small = ((0, 0), (0, 1), (-1, 0), (-1, 1), (0, 2), (-2, 1))
    return small + ((0, most), (-most, 0), (-most, most), (1 - most, most // 3))


def ratio_by_hand(way):
    if isinstance(way, Plain):
        return way.base
    if isinstance(way, Below):
        return -way.base
    if isinstance(way, Balanced):
        return 2 * way.half + 1
    return (-way.most, 1)


def split_by_hand(way, total):
    # Every figure is tried; just one leaves a whole carry.
    found = []
    for figure in range(way.low(0), way.high(0) + 1):
        if isinstance(way, Pairs):
            # (x, y) divided by (-M, 1).
            x, y = total[0] - figure, total[1]
            first, second, many = -way.most * x + y, -x - way.most * y, way.most ** 2 + 1
            if first % many == 0 and second % many == 0:
                found.append((figure, (first // many, second // many)))
        elif (total - figure) % ratio_by_hand(way) == 0:
            found.append((figure, (total - figure) // ratio_by_hand(way)))
    (answer,) = found
    return answer


def as_number(way, whole):
    return (whole, 0) if isinstance(way, Pairs) else whole


def machine_by_hand(way, low, high):
    carries = [as_number(way, 0)]
    rows = []
    for carry in carries:
        for total in range(low, high + 1):
            figure, behind = split_by_hand(way, sum_by_hand(carry, as_number(way, total)))
            rows.append((carry, total, figure, behind))
            if behind not in carries:
                carries.append(behind)
    return carries, rows


class MadeMachines(RefusalCase):
    def test_known_ones(self):
        machine = Machine(Plain(2), 0, 2)
        self.assertEqual(machine.carries(), [0, 1])
        self.assertEqual(machine.rows(), [
            (0, 0, 0, 0), (0, 1, 1, 0), (0, 2, 0, 1), (1, 0, 1, 0), (1, 1, 0, 1), (1, 2, 1, 1),
        ])
        self.assertEqual(Machine(Below(2), 0, 2).carries(), [0, -1, 1])
        self.assertEqual(Machine(Balanced(1), -2, 2).carries(), [0, -1, 1])
        self.assertEqual(Machine(Plain(10), -1, 0).carries(), [0, -1])
        self.assertEqual(Machine(Pairs(1), 0, 0).carries(), [(0, 0)])
        self.assertEqual(Machine(Pairs(1), 0, 0).rows(), [((0, 0), 0, 0, (0, 0))])
        self.assertEqual(Machine(Pairs(1), 0, 2).carries()[:4], [(0, 0), (-1, -1), (0, 1), (-1, 0)])

    def test_carries_and_rows(self):
        for way in ways_of(*WITH_ONE_RATIO):
            for low, high in spans_of(way):
                with self.subTest(way=told(way), low=low, high=high):
                    machine = Machine(way, low, high)
                    carries, rows = machine_by_hand(way, low, high)
                    self.assertEqual(machine.carries(), carries)
                    self.assertEqual(machine.rows(), rows)
                    self.assertIs(type(machine.carries()), list)
                    self.assertEqual({type(row) for row in machine.rows()}, {tuple})

    def test_each_row_keeps_its_equation(self):
        for way in ways_of(*WITH_ONE_RATIO):
            low, high = spans_of(way)[-1]
            ratio = ratio_by_hand(way)
            for carry, total, figure, behind in Machine(way, low, high).rows():
                with self.subTest(way=told(way), carry=carry, total=total):
                    ahead = sum_by_hand(carry, as_number(way, total))
                    self.assertEqual(sum_by_hand(as_number(way, figure), product_by_hand(ratio, behind)), ahead)
                    self.assertIs(type(total), int)
                    self.assertTrue(way.low(0) <= figure <= way.high(0))

    def test_each_carry_once_and_a_row_for_each_carry_and_total(self):
        for way in ways_of(*WITH_ONE_RATIO):
            for low, high in spans_of(way):
                with self.subTest(way=told(way), low=low, high=high):
                    machine = Machine(way, low, high)
                    carries = machine.carries()
                    self.assertEqual(carries[0], as_number(way, 0))
                    self.assertEqual(len(set(carries)), len(carries))
                    wanted = [(carry, total) for carry in carries for total in range(low, high + 1)]
                    self.assertEqual([row[:2] for row in machine.rows()], wanted)


class RefusedMachines(RefusalCase):
    def test_no_span(self):
        for way in ways_of(*WITH_ONE_RATIO):
            most = farthest(way)
            for low, high in (
                (1, 1), (1, 0), (1, most), (0, -1), (-1, -1), (-most, -1), (1, -1), (-most - 1, 0), (0, most + 1),
                (-most - 1, most), (-most, most + 1), (-most - 1, most + 1), (-HUGE, 0), (0, HUGE), (HUGE, HUGE),
                (-HUGE, -HUGE), (-VAST, VAST), (VAST, -VAST),
            ):
                with self.subTest(way=told(way), low=low, high=high):
                    self.assert_refused(NoSpan, Machine, way, low, high)

    def test_the_bounds_themselves(self):
        for way in ways_of(*WITH_ONE_RATIO):
            most = farthest(way)
            for low, high in ((-most, most), (-most, 0), (0, most), (0, 0)):
                with self.subTest(way=told(way), low=low, high=high):
                    totals = [row[1] for row in Machine(way, low, high).rows()]
                    self.assertEqual((min(totals), max(totals)), (low, high))

    def test_no_ratio_whatever_the_span(self):
        for way in ways_of(Growing, Falling):
            for low, high in ((0, 0), (-1, 1), (-60, 60), (1, 1), (0, -1), (0, 61), (-HUGE, 0), (VAST, -VAST)):
                with self.subTest(way=told(way), low=low, high=high):
                    self.assert_refused(NoRatio, Machine, way, low, high)

    def test_what_is_right_is_made_behind_a_refusal_as_ahead_of_it(self):
        for way in ways_of(*WITH_ONE_RATIO):
            with self.subTest(way=told(way)):
                ahead = Machine(way, -1, 2).rows()
                self.assert_refused(NoSpan, Machine, way, 1, 2)
                self.assert_refused(NoRatio, Machine, Growing(2), -1, 2)
                self.assertEqual(Machine(way, -1, 2).rows(), ahead)


def read_by_rows(machine, totals):
    leads = {row[:2]: row[2:] for row in machine.rows()}
    carry = machine.carries()[0]
    figures = []
    for total in totals:
        figure, carry = leads[carry, total]
        figures.append(figure)
    return (figures, carry)


def totals_in(low, high, chance):
    rows = [[], [0], [0, 0, 0], [low], [high], [high, low, 0], [low] * 9, [high] * 9]
    for length in (1, 2, 3, 5, 20, 100, 300):
        row = [chance.randint(low, high) for place in range(length)]
        rows += [row, row + [0] * chance.randint(1, 12)]
    return rows


class Reading(RefusalCase):
    def test_known_ones(self):
        self.assertEqual(Machine(Plain(10), -9, 18).read([12, -1, 1]), ([2, 0, 1], 0))
        self.assertEqual(Machine(Plain(2), 0, 2).read([2, 2]), ([0, 1], 1))
        self.assertEqual(Machine(Plain(10), -1, 1).read([-1, 0, 0]), ([9, 9, 9], -1))
        self.assertEqual(Machine(Balanced(1), -2, 2).read([2, 2, 0]), ([-1, 0, 1], 0))
        self.assertEqual(Machine(Pairs(1), 0, 2).read([2]), ([0], (-1, -1)))
        self.assertEqual(Machine(Pairs(1), 0, 2).read([2, 0, 0, 0, 0]), ([0, 0, 1, 1, 0], (0, 0)))
        self.assertEqual(Machine(Pairs(1), 0, 2).read([]), ([], (0, 0)))

    def test_it_goes_by_its_rows(self):
        chance = chance_of(21)
        for way in ways_of(*WITH_ONE_RATIO):
            for low, high in spans_of(way)[2::2]:
                machine = Machine(way, low, high)
                for totals in totals_in(low, high, chance):
                    with self.subTest(way=told(way), low=low, high=high, totals=totals):
                        answer = machine.read(totals)
                        self.assertEqual(answer, read_by_rows(machine, totals))
                        self.assertEqual([type(thing) for thing in answer][0], list)
                        self.assertEqual(len(answer[0]), len(totals))

    def test_the_figures_and_the_carry_keep_the_worth(self):
        chance = chance_of(210)
        for way in ways_of(*WITH_ONE_RATIO):
            low, high = spans_of(way)[-1]
            machine = Machine(way, low, high)
            for totals in totals_in(low, high, chance):
                with self.subTest(way=told(way), totals=totals):
                    figures, carry = machine.read(totals)
                    self.assertEqual(worth_by_hand(way, figures + [carry]), worth_by_hand(way, totals))

    def test_with_the_carry_0_they_are_the_settled_writing(self):
        chance = chance_of(211)
        for way in ways_of(*WITH_ONE_RATIO):
            for low, high in spans_of(way):
                machine = Machine(way, low, high)
                for totals in totals_in(low, high, chance):
                    with self.subTest(way=told(way), low=low, high=high, totals=totals):
                        self.assert_read_as_settled(machine, way, totals)

    def assert_read_as_settled(self, machine, way, totals):
        # More 0s behind than a carry of the machine's needs to run out.
        figures, carry = machine.read(totals + [0] * 60)
        if isinstance(way, Plain) and worth_by_hand(way, totals) < 0:
            self.assertLess(carry, 0)
            self.assert_refused(TooLess, settled, way, totals)
        else:
            self.assertEqual(carry, as_number(way, 0))
            self.assertEqual(without_end_noughts(figures), settled(way, totals))

    def test_a_total_out_of_the_span(self):
        chance = chance_of(212)
        for way in ways_of(*WITH_ONE_RATIO):
            for low, high in spans_of(way)[::3]:
                machine = Machine(way, low, high)
                for place in (0, 1, 7, 49):
                    totals = [chance.randint(low, high) for place in range(50)]
                    ahead = machine.read(totals)
                    for total in (low - 1, high + 1, low - 61, high + 61, -HUGE, VAST):
                        with self.subTest(way=told(way), low=low, high=high, place=place, total=total):
                            wrong = totals[:place] + [total] + totals[place + 1:]
                            handed = list(wrong)
                            self.assert_refused(NoTotal, machine.read, handed)
                            self.assertEqual(handed, wrong)
                            self.assertEqual(machine.read(totals), ahead)


class OwnedMachines(OwnedCase):
    def test_the_totals_stay_and_the_list_told_is_the_askers_own(self):
        for way in ways_of(*WITH_ONE_RATIO):
            machine = Machine(way, -1, 2)
            for totals in ([], [0], [2, 2, -1, 0]):
                with self.subTest(way=told(way), totals=totals):
                    self.assert_owned(machine.read, list(totals))

    def test_what_the_asker_does_to_the_lists_changes_nothing(self):
        for way in ways_of(*WITH_ONE_RATIO):
            with self.subTest(way=told(way)):
                machine = Machine(way, -2, 1)
                ahead = (machine.carries(), machine.rows(), machine.read([1, 1, -2]))
                for change in (list.clear, list.reverse, list.pop):
                    change(machine.carries())
                    change(machine.rows())
                machine.carries()[0] = 5
                machine.rows()[0] = (0, 0, 5, 5)
                self.assertEqual((machine.carries(), machine.rows(), machine.read([1, 1, -2])), ahead)

    def test_two_machines_of_one_way_are_apart(self):
        for way in ways_of(*WITH_ONE_RATIO):
            with self.subTest(way=told(way)):
                one = Machine(way, 0, 1)
                ahead = (one.carries(), one.rows())
                other = Machine(way, -2, 2)
                other.read([2, -2, 2])
                self.assertEqual((one.carries(), one.rows()), ahead)
                with self.assertRaises(NoTotal):
                    one.read([2])

    def test_the_way_is_not_kept(self):
        for way, name, other in (
            (Plain(10), "base", 2), (Below(10), "base", 2), (Balanced(5), "half", 1), (Pairs(3), "most", 1),
        ):
            with self.subTest(way=told(way)):
                machine = Machine(way, -2, 2)
                ahead = (machine.carries(), machine.rows(), machine.read([2, -2, 1]))
                setattr(way, name, other)
                self.assertEqual((machine.carries(), machine.rows(), machine.read([2, -2, 1])), ahead)


if __name__ == "__main__":
    unittest.main()
