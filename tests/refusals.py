"""How a refusal is tested, whichever function it comes from."""

import unittest

from oddbases import errors

REFUSALS = tuple(
    found
    for found in vars(errors).values()
    if isinstance(found, type) and found is not errors.OddError
)


class RefusalCase(unittest.TestCase):
    def assert_refused(self, wanted, asked, *handed):
        for caught in (wanted, errors.OddError, ValueError):
            with self.assertRaises(caught) as refusal:
                asked(*handed)
            self.assertIs(type(refusal.exception), wanted)
        others = tuple(other for other in REFUSALS if other is not wanted)
        self.assertNotIsInstance(refusal.exception, others)
