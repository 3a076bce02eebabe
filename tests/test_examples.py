"""The examples that the document gives."""

import unittest

from tests.helper import EXAMPLE, ask, booked, earliest, last, late, latest, post, row, table, time

A, B, C = 0, 1, 2


class Examples(unittest.TestCase):
    def test_ready_at_345_takes_day_0(self):
        self.assertEqual(last(table(EXAMPLE), earliest(A, 345, B)), [430] + row([7, 0, 0, 1, 360, 420]))
        self.assertEqual(last(table(EXAMPLE), earliest(A, 345, C)), [480] + row([7, 0, 0, 2, 360, 480]))

    def test_ready_at_346_takes_day_1(self):
        self.assertEqual(last(table(EXAMPLE), earliest(A, 346, B)), [1870] + row([7, 1, 0, 1, 1800, 1860]))
        self.assertEqual(last(table(EXAMPLE), earliest(A, 346, C)), [1920] + row([7, 1, 0, 2, 1800, 1920]))

    def test_latest(self):
        self.assertEqual(last(table(EXAMPLE), latest(A, C, 480)), [0, 345])

    def test_two_things_of_four_letters(self):
        things = [table(EXAMPLE), post(1, amount=4, rank=0), post(2, amount=4, rank=1)]
        self.assertEqual(ask(*things)[1:], [[0, 480], [0, 480]])
        self.assertEqual(ask(*things, time(361), time(1800), time(1801), time(20000))[3:], [[1], [0], [1], [0]])
        self.assertEqual(ask(*things, booked(1), booked(2), late(1), late(2))[3:], [
            [0, 0, 480] + row([7, 0, 0, 2, 360, 480]), [0, 0, 1920] + row([7, 1, 0, 2, 1800, 1920]), [0, 0], [0, 1440],
        ])


if __name__ == "__main__":
    unittest.main()
