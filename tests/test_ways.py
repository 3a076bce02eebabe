"""earliest, bests and latest: ways by all rides."""

import unittest

from tests.helper import CLEAR, EXAMPLE, FAR, ask, bests, cancel, delay, earliest, last, latest, looks, post, row, table, time

A, B, C, D, E, F = range(6)

# One ride goes straight but slowly; each further change is earlier.
CHANGES = " / ".join([
    "TRIP 1 V=1-1 CAP 1 1 CUT 0 / A - 0000 / D 2000 -",
    "TRIP 2 V=1-1 CAP 1 1 CUT 0 / A - 0100 / B 0200 -",
    "TRIP 3 V=1-1 CAP 1 1 CUT 0 / B - 0210 / D 1000 -",
    "TRIP 4 V=1-1 CAP 1 1 CUT 0 / B - 0220 / C 0300 -",
    "TRIP 5 V=1-1 CAP 1 1 CUT 0 / C - 0300 / D 0330 -",
])

# A chain of rides in their order: who looked at what this round has found would know all of it behind one.
CHAIN = " / ".join([
    f"TRIP {n} V=0-0 CAP 1 1 CUT 0 / {'ABCDEF'[n]} - 0{n}00 / {'ABCDEF'[n + 1]} 0{n}30 -" for n in range(5)
])


class Earliest(unittest.TestCase):
    def test_no_ride_at_all(self):
        self.assertEqual(last(earliest(A, 0, A)), [0, 0])
        self.assertEqual(last(earliest(F, 100000, F)), [100000, 0])
        self.assertEqual(last(table(EXAMPLE), earliest(B, 345, B)), [345, 0])

    def test_no_way(self):
        self.assertEqual(last(earliest(A, 0, B)), [-8])
        self.assertEqual(last(table(EXAMPLE), earliest(C, 0, A)), [-8])
        self.assertEqual(last(table(EXAMPLE), earliest(A, 0, D)), [-8])
        self.assertEqual(last(table(EXAMPLE), earliest(A, 13 * 1440 + 346, C)), [-8])
        self.assertEqual(last(table(EXAMPLE), earliest(A, 13 * 1440 + 345, C))[0], 13 * 1440 + 480)
        self.assertEqual(last(table(EXAMPLE), CLEAR, earliest(A, 0, C)), [-8])

    def test_several_rides(self):
        told = [1440 + 210] + row([2, 1, 0, 1, 1500, 1560], [4, 1, 0, 1, 1580, 1620], [5, 1, 0, 1, 1620, 1650])
        self.assertEqual(last(table(CHANGES), earliest(A, 0, D)), told)

    def test_five_rides(self):
        told = [270] + row(*[[n, 0, 0, 1, 60 * n, 60 * n + 30] for n in range(5)])
        self.assertEqual(last(table(CHAIN), earliest(A, 0, F)), told)

    def test_of_two_equally_early_the_first_trip(self):
        two = "TRIP 9 V=0-0 CAP 1 1 CUT 0 / A - 0500 / B 0700 - / TRIP 3 V=0-0 CAP 1 1 CUT 0 / A - 0600 / B 0700 -"
        self.assertEqual(last(table(two), earliest(A, 0, B)), [420] + row([9, 0, 0, 1, 300, 420]))
        self.assertEqual(last(table(two), earliest(A, 301, B)), [420] + row([3, 0, 0, 1, 360, 420]))

    def test_of_two_equally_early_the_first_day(self):
        lines = "TRIP 9 CAP 1 1 CUT 0 / A - 0500 / B 2500 -"
        late = [table(lines), delay(9, 0, 0, 720), delay(9, 0, 0, 720)]
        self.assertEqual(last(*late, earliest(A, 0, B)), [2940] + row([9, 0, 0, 1, 1740, 2940]))
        self.assertEqual(last(*late, delay(9, 0, 0, 1), earliest(A, 0, B)), [2940] + row([9, 1, 0, 1, 1740, 2940]))

    def test_of_two_equally_early_the_one_of_fewer_rides(self):
        lines = " / ".join([
            "TRIP 1 V=0-0 CAP 1 1 CUT 0 / A - 0100 / B 0200 -", "TRIP 2 V=0-0 CAP 1 1 CUT 0 / B - 0300 / C 0400 -",
            "TRIP 3 V=0-0 CAP 1 1 CUT 0 / A - 0000 / C 0400 -",
        ])
        self.assertEqual(last(table(lines), earliest(A, 0, C)), [240] + row([3, 0, 0, 1, 0, 240]))

    def test_of_two_equally_early_the_first_stop(self):
        # Behind one round both B and C are known; from both a ride of the trip 2 comes to D.
        lines = " / ".join([
            "TRIP 1 V=0-0 CAP 1 1 CUT 0 / A - 0100 / B 0200 0200 / C 0300 -",
            "TRIP 2 V=0-0 CAP 1 1 CUT 0 / B - 0400 / C 0500 0500 / D 0600 -",
        ])
        self.assertEqual(last(table(lines), earliest(A, 0, D)), [360] + row([1, 0, 0, 1, 60, 120], [2, 0, 0, 2, 240, 360]))

    def test_who_stays_in_a_run_has_one_ride(self):
        lines = "TRIP 1 V=0-0 CAP 1 1 CUT 0 / A - 0600 / B 0700 0710 / D 0900 -"
        self.assertEqual(last(table(lines), earliest(A, 0, D)), [540] + row([1, 0, 0, 2, 360, 540]))

    def test_the_way_of_before_the_round_counts(self):
        # B is reached in round 1 by the trip 3, in round 2 earlier by 1 and 2; the ride 4 to D needs the earlier one.
        lines = " / ".join([
            "TRIP 1 V=0-0 CAP 1 1 CUT 0 / A - 0000 / C 0010 -", "TRIP 2 V=0-0 CAP 1 1 CUT 0 / C - 0020 / B 0030 -",
            "TRIP 3 V=0-0 CAP 1 1 CUT 0 / A - 0000 / B 1000 -", "TRIP 4 V=0-1 CAP 1 1 CUT 0 / B - 0040 / D 0050 -",
        ])
        told = [50] + row([1, 0, 0, 1, 0, 10], [2, 0, 0, 1, 20, 30], [4, 0, 0, 1, 40, 50])
        self.assertEqual(last(table(lines), earliest(A, 0, D)), told)
        self.assertEqual(last(table(lines), bests(A, 0, D)), [2, 4, 2, 1490, 3, 50])

    def test_gone_or_full_rides_count(self):
        calls = [table("TRIP 7 V=0-0 CAP 0 0 CUT 0 / A - 0600 / C 0700 -"), post(1), time(5000)]
        self.assertEqual(last(*calls, earliest(A, 0, C)), [420] + row([7, 0, 0, 1, 360, 420]))

    def test_cancelled_runs_do_not(self):
        self.assertEqual(last(table(EXAMPLE), cancel(7, 0), earliest(A, 0, C))[0], 1920)


class Bests(unittest.TestCase):
    def test_no_ride_at_all(self):
        self.assertEqual(last(bests(A, 17, A)), [1, 2, 0, 17])
        self.assertEqual(last(table(EXAMPLE), bests(A, 17, A)), [1, 2, 0, 17])

    def test_no_way(self):
        self.assertEqual(last(bests(A, 0, B)), [0, 0])
        self.assertEqual(last(table(EXAMPLE), bests(C, 0, A)), [0, 0])

    def test_one_ride(self):
        self.assertEqual(last(table(EXAMPLE), bests(A, 345, C)), [1, 2, 1, 480])

    def test_several(self):
        self.assertEqual(last(table(CHANGES), bests(A, 0, D)), [3, 6, 1, 2640, 2, 2040, 3, 1650])
        self.assertEqual(last(table(CHANGES), bests(A, 1441, D)), [2, 4, 2, 2040, 3, 1650])

    def test_five_rides(self):
        for goal in range(1, 6):
            self.assertEqual(last(table(CHAIN), bests(A, 0, goal)), [1, 2, goal, 60 * goal - 30])

    def test_one_that_is_no_earlier_is_not_told(self):
        lines = " / ".join([
            "TRIP 1 V=0-0 CAP 1 1 CUT 0 / A - 0100 / B 0200 -", "TRIP 2 V=0-0 CAP 1 1 CUT 0 / B - 0300 / C 0400 -",
            "TRIP 3 V=0-0 CAP 1 1 CUT 0 / A - 0000 / C 0400 -",
        ])
        self.assertEqual(last(table(lines), bests(A, 0, C)), [1, 2, 1, 240])
        self.assertEqual(last(table(lines.replace("A - 0000 / C 0400", "A - 0000 / C 0401")), bests(A, 0, C)), [2, 4, 1, 241, 2, 240])


class Latest(unittest.TestCase):
    def test_no_ride_at_all(self):
        self.assertEqual(last(latest(A, A, 0)), [0, 0])
        self.assertEqual(last(table(EXAMPLE), latest(B, B, 100000)), [0, 100000])

    def test_none(self):
        self.assertEqual(last(latest(A, B, 100000)), [-8])
        self.assertEqual(last(table(EXAMPLE), latest(C, A, 100000)), [-8])
        self.assertEqual(last(table(EXAMPLE), latest(A, C, 479)), [-8])
        self.assertEqual(last(table(EXAMPLE), latest(A, B, 429)), [-8])

    def test_one_ride(self):
        self.assertEqual(last(table(EXAMPLE), latest(A, C, 1919)), [0, 345])
        self.assertEqual(last(table(EXAMPLE), latest(A, C, 1920)), [0, 1785])
        self.assertEqual(last(table(EXAMPLE), latest(A, B, 430)), [0, 345])
        self.assertEqual(last(table(EXAMPLE), latest(A, C, 100000)), [0, 13 * 1440 + 345])

    def test_several_rides(self):
        self.assertEqual(last(table(CHAIN), latest(A, F, 270)), [0, 0])
        self.assertEqual(last(table(CHAIN), latest(B, F, 270)), [0, 60])
        self.assertEqual(last(table(CHAIN), latest(A, F, 269)), [-8])
        self.assertEqual(last(table(CHANGES), latest(A, D, 2640)), [0, 1500])

    def test_the_greatest_whatever_the_order(self):
        two = ["TRIP 1 CAP 1 1 CUT 0 / A - 0600 / B 0700 -", "TRIP 2 CAP 1 1 CUT 0 / A - 0500 / B 0530 -"]
        for lines in (" / ".join(two), " / ".join(two[::-1])):
            self.assertEqual(last(table(lines), latest(A, B, 420)), [0, 360])
            self.assertEqual(last(table(lines), latest(A, B, 419)), [0, 300])
            self.assertEqual(last(table(lines), delay(2, 0, 0, 61), latest(A, B, 420)), [0, 361])

    def test_below_0(self):
        lines = "TRIP 7 V=0-0 CAP 1 1 CUT 999 / A - 0000 / B 0001 0002 / C 0003 -"
        self.assertEqual(last(table(lines), latest(A, C, 3)), [0, -999])
        self.assertEqual(last(table(lines), latest(B, C, 3)), [0, -997])
        self.assertEqual(last(table("TRIP 7 V=0-0 CAP 1 1 CUT 1 / A - 0000 / C 0003 -"), latest(A, C, 3)), [0, -1])

    def test_gone_or_full_rides_count(self):
        calls = [table("TRIP 7 V=0-0 CAP 0 0 CUT 0 / A - 0600 / C 0700 -"), post(1), time(5000)]
        self.assertEqual(last(*calls, latest(A, C, 420)), [0, 360])

    def test_cancelled_runs_do_not(self):
        self.assertEqual(last(table(EXAMPLE), cancel(7, 1), latest(A, C, 1920)), [0, 345])


class Ranges(unittest.TestCase):
    def test_offices(self):
        for office in (-FAR, -1, 6, FAR):
            for call in (earliest(office, 0, A), earliest(A, 0, office), bests(office, 0, A), bests(A, 0, office),
                         latest(office, A, 0), latest(A, office, 0), earliest(office, 0, office), latest(office, office, 0)):
                self.assertEqual(last(call), [-1])
        for office in (0, 5):
            self.assertEqual(ask(earliest(office, 3, office), bests(office, 3, office), latest(office, office, 3)),
                             [[3, 0], [1, 2, 0, 3], [0, 3]])

    def test_times(self):
        for t in (-FAR, -1, 100001, FAR):
            self.assertEqual(ask(earliest(A, t, A), bests(A, t, A), latest(A, A, t)), [[-1], [-1], [-1]])
        for t in (0, 100000):
            self.assertEqual(ask(earliest(A, t, A), bests(A, t, A), latest(A, A, t)), [[t, 0], [1, 2, 0, t], [0, t]])

    def test_out_of_range_counts_before_no_way(self):
        self.assertEqual(ask(earliest(A, -1, B), earliest(A, 0, 6), latest(A, B, 100001), latest(6, A, 0)), [[-1]] * 4)

    def test_nothing_changes(self):
        before = [table(EXAMPLE), delay(7, 0, 0, 3)]
        plain = ask(*before, *looks())[2:]
        calls = [earliest(A, 0, C), earliest(6, 0, C), earliest(C, 0, A), bests(A, 0, C), bests(A, -1, C), latest(A, C, 480), latest(A, C, -1)]
        self.assertEqual(ask(*before, *calls, *looks())[9:], plain)


if __name__ == "__main__":
    unittest.main()
