"""[2] How it is tested that what is handed in stays, and that each list told is the asker's own."""

import copy
import unittest


def lists_in(answer):
    if isinstance(answer, list):
        return [answer]
    if isinstance(answer, tuple):
        return [thing for thing in answer if isinstance(thing, list)]
    return []


def spoil(row):
    row.append(7)
    row[0] = -12345
    row.reverse()


class OwnedCase(unittest.TestCase):
    def assert_owned(self, asked, *handed):
        wanted = copy.deepcopy(handed)
        answer = asked(*handed)
        first = copy.deepcopy(answer)
        self.assert_same_rows(handed, wanted)
        for row in lists_in(answer):
            spoil(row)
        self.assert_same_rows(handed, wanted)
        second = asked(*handed)
        self.assertEqual(second, first)
        for row in handed:
            if isinstance(row, list):
                spoil(row)
        self.assertEqual(second, first)
        again = [copied if isinstance(copied, list) else kept for copied, kept in zip(wanted, handed)]
        self.assertEqual(asked(*again), first)

    def assert_same_rows(self, handed, wanted):
        for row, copied in zip(handed, wanted):
            if isinstance(row, list):
                self.assertEqual(row, copied)
            elif hasattr(row, "__dict__"):
                self.assertEqual(vars(row), vars(copied))
