"""counts: how much there is of everything."""

import unittest

from tests.helper import CLEAR, COUNTS, EXAMPLE, NARROW, ask, cancel, delay, last, looks, post, table, table_of, time, withdraw

A = 0


class Counts(unittest.TestCase):
    def test_at_the_beginning(self):
        self.assertEqual(last(COUNTS), [0, 0, 0, 0, 0])

    def test_behind_each_call(self):
        calls = [
            table(EXAMPLE), table(NARROW), cancel(1, 3), cancel(2, 3), delay(1, 4, 0, 30), delay(1, 4, 0, 30), delay(2, 4, 0, 1), post(1),
            post(2, t=50), post(3, t=500), time(100), withdraw(2), time(500), cancel(1, 4), CLEAR,
        ]
        told = [last(*calls[:count], COUNTS) for count in range(1, len(calls) + 1)]
        self.assertEqual(told, [
            [0, 1, 0, 0, 0], [0, 2, 0, 0, 0], [0, 2, 1, 0, 0], [0, 2, 2, 0, 0], [0, 2, 2, 1, 0], [0, 2, 2, 2, 0], [0, 2, 2, 3, 0],
            [0, 2, 2, 3, 1], [0, 2, 2, 3, 2], [0, 2, 2, 3, 3], [100, 2, 2, 3, 3], [100, 2, 2, 3, 2], [500, 2, 2, 3, 2], [500, 2, 3, 3, 2],
            [0, 0, 0, 0, 0],
        ])

    def test_behind_a_new_table(self):
        calls = [table(EXAMPLE), cancel(7, 1), delay(7, 2, 0, 5), time(300)]
        self.assertEqual(last(*calls, COUNTS), [300, 1, 1, 1, 0])
        self.assertEqual(last(*calls, table(NARROW), COUNTS), [300, 2, 0, 0, 0])
        self.assertEqual(last(*calls, table_of([]), COUNTS), [300, 0, 0, 0, 0])

    def test_behind_refusals(self):
        before = [table(EXAMPLE), cancel(7, 1), delay(7, 2, 0, 5), post(1), time(1000)]
        wrong = [
            table(NARROW), table_of([256]), cancel(7, 1), cancel(7, 0), cancel(8, 2), delay(7, 2, 2, 5), delay(7, 2, 0, 0), delay(7, 0, 0, 5),
            delay(7, 1, 0, 5), time(999), time(100001), post(1, t=1000), post(2, t=999), post(2, A, A, t=1000), withdraw(1), withdraw(2),
        ]
        for call in wrong:
            self.assertEqual(last(*before, call, COUNTS), [1000, 1, 1, 1, 1], call)
        self.assertEqual(last(*before[:3], table("MIN A 5 / what"), COUNTS), [0, 1, 1, 1, 0])

    def test_most_of_all(self):
        six = " / ".join([f"TRIP {number} CAP 1 1 CUT 0 / A - 0600 / B 0700 -" for number in range(6)])
        calls = [table(six)] + [cancel(number, day) for number in range(6) for day in range(14)]
        self.assertEqual(last(*calls, COUNTS), [0, 6, 84, 0, 0])
        calls = [table(six)] + [delay(0, 0, 0, 1)] * 41 + [post(number) for number in range(1, 12)] + [time(100000)]
        self.assertEqual(last(*calls, COUNTS), [100000, 6, 0, 40, 10])

    def test_nothing_changes(self):
        before = [table(EXAMPLE), cancel(7, 1), delay(7, 2, 0, 5), post(1), time(1000)]
        self.assertEqual(ask(*before, COUNTS, COUNTS, *looks())[7:], ask(*before, *looks())[5:])


if __name__ == "__main__":
    unittest.main()
