"""What several test files need: the check of a refusal, and numbers that are no places."""

import unittest

from atonce.errors import Crowded, NoPlace, NoSide, NoUnit, OrderError, OutOfReach

# In the order in which they go ahead of one another.
REFUSALS = (NoPlace, NoSide, Crowded, NoUnit, OutOfReach)


def no_places(size):
    return sorted({-1, -2, -size, -size - 1, -1000, size, size + 1, 2 * size, 1000, 10 ** 12})


class RefusalCase(unittest.TestCase):
    def assert_refused(self, due, call, *args):
        with self.subTest(due=due.__name__, args=args):
            with self.assertRaises(ValueError) as caught:
                call(*args)
            self.assertIsInstance(caught.exception, OrderError)
            raised = [kind for kind in REFUSALS if isinstance(caught.exception, kind)]
            self.assertEqual(raised, [due])
