"""cancel and delay: runs and rides, when they go and when they come."""

import unittest

from tests.helper import CLEAR, EXAMPLE, FAR, FOUR, NO_RUNS, SOME_DAYS, ask, cancel, delay, earliest, last, latest, looks, row, table, time

A, B, C, D = 0, 1, 2, 3


def ride_days(lines, *calls):
    """The days on which the trip 7 goes from A to B, told by going from ride to ride."""
    days = []
    t = 0
    while True:
        told = last(table(lines), *calls, earliest(A, t, B))
        if told == [-8]:
            return days
        days.append(told[3])
        t = told[6] + 1


class Days(unittest.TestCase):
    def trip(self, words):
        return f"TRIP 7 {words} CAP 1 1 CUT 0 / A - 0600 / B 0700 -"

    def test_every_day(self):
        self.assertEqual(ride_days(self.trip("")), list(range(14)))

    def test_days_of_the_week(self):
        self.assertEqual(ride_days(self.trip("D=0")), [0, 7])
        self.assertEqual(ride_days(self.trip("D=6")), [6, 13])
        self.assertEqual(ride_days(self.trip("D=52")), [2, 5, 9, 12])

    def test_first_and_last_day(self):
        self.assertEqual(ride_days(self.trip("V=3-5")), [3, 4, 5])
        self.assertEqual(ride_days(self.trip("V=0-0")), [0])
        self.assertEqual(ride_days(self.trip("V=13-13")), [13])

    def test_both(self):
        self.assertEqual(ride_days(self.trip("D=13 V=2-8")), [3, 8])
        self.assertEqual(ride_days(self.trip("D=1 V=2-7")), [])

    def test_cancelled_runs(self):
        self.assertEqual(ride_days(self.trip("D=135"), cancel(7, 3), cancel(7, 12)), [1, 5, 8, 10])

    def test_hours_over_24(self):
        lines = "TRIP 7 V=2-2 CAP 1 1 CUT 0 / A - 2330 / B 2401 4700 / C 4759 -"
        self.assertEqual(last(table(lines), earliest(A, 0, C)), [2880 + 2879] + row([7, 2, 0, 2, 2880 + 1410, 2880 + 2879]))
        self.assertEqual(last(table(lines), earliest(B, 0, C)), [2880 + 2879] + row([7, 2, 1, 2, 2880 + 2820, 2880 + 2879]))


class Minutes(unittest.TestCase):
    def test_cut_and_office_minutes(self):
        self.assertEqual(last(table(FOUR), earliest(A, 345, D)), [544] + row([7, 0, 0, 3, 360, 540]))
        self.assertEqual(last(table(FOUR), earliest(A, 346, D)), [1984] + row([7, 1, 0, 3, 1800, 1980]))
        self.assertEqual(last(table(FOUR), earliest(B, 415, C)), [482] + row([7, 0, 1, 2, 430, 480]))
        self.assertEqual(last(table(FOUR), earliest(B, 416, C)), [1922] + row([7, 1, 1, 2, 1870, 1920]))

    def test_office_minutes_and_cut_between_two_rides(self):
        lines = "MIN B {} / TRIP 1 V=0-0 CAP 1 1 CUT 0 / A - 0600 / B 0700 - / TRIP 2 CAP 1 1 CUT {} / B - 0730 / C 0800 -"
        same_day = [480] + row([1, 0, 0, 1, 360, 420], [2, 0, 0, 1, 450, 480])
        next_day = [1920] + row([1, 0, 0, 1, 360, 420], [2, 1, 0, 1, 1890, 1920])
        self.assertEqual(last(table(lines.format(10, 20)), earliest(A, 0, C)), same_day)
        self.assertEqual(last(table(lines.format(30, 0)), earliest(A, 0, C)), same_day)
        self.assertEqual(last(table(lines.format(11, 20)), earliest(A, 0, C)), next_day)
        self.assertEqual(last(table(lines.format(10, 21)), earliest(A, 0, C)), next_day)

    def test_no_minutes_of_the_office_where_one_stays_in_the_run(self):
        lines = "MIN B 999 / TRIP 1 V=0-0 CAP 1 1 CUT 0 / A - 0600 / B 0700 0700 / C 0800 -"
        self.assertEqual(last(table(lines), earliest(A, 0, C)), [480] + row([1, 0, 0, 2, 360, 480]))


class Delays(unittest.TestCase):
    def ride(self, origin, goal, *calls):
        told = last(table(FOUR), *calls, earliest(origin, 0, goal))
        return told[2:]

    def test_delay_at_this_stop(self):
        self.assertEqual(self.ride(B, C, delay(7, 0, 1, 9)), [7, 0, 1, 2, 439, 489])

    def test_delay_before_it(self):
        self.assertEqual(self.ride(B, C, delay(7, 0, 0, 9)), [7, 0, 1, 2, 439, 489])

    def test_delay_behind_it(self):
        self.assertEqual(self.ride(A, B, delay(7, 0, 1, 9)), [7, 0, 0, 1, 360, 420])
        self.assertEqual(self.ride(B, C, delay(7, 0, 2, 9)), [7, 0, 1, 2, 430, 480])

    def test_delay_between(self):
        self.assertEqual(self.ride(A, D, delay(7, 0, 1, 9)), [7, 0, 0, 3, 360, 549])
        self.assertEqual(self.ride(A, C, delay(7, 0, 1, 9)), [7, 0, 0, 2, 360, 489])

    def test_delays_add_up(self):
        calls = [delay(7, 0, 0, 1), delay(7, 0, 1, 20), delay(7, 0, 1, 300), delay(7, 0, 2, 1000)]
        self.assertEqual([told[0] for told in ask(table(FOUR), *calls)[1:]], [361, 451, 751, 1811])
        self.assertEqual(self.ride(A, B, *calls), [7, 0, 0, 1, 361, 421])
        self.assertEqual(self.ride(B, C, *calls), [7, 0, 1, 2, 751, 801])
        self.assertEqual(self.ride(A, C, *calls), [7, 0, 0, 2, 361, 801])

    def test_other_runs_are_not_late(self):
        self.assertEqual(last(table(FOUR), delay(7, 1, 0, 9), earliest(A, 0, B))[2:], [7, 0, 0, 1, 360, 420])
        self.assertEqual(last(table(FOUR), delay(7, 0, 0, 9), earliest(A, 355, B))[2:], [7, 1, 0, 1, 1800, 1860])

    def test_a_late_run_is_taken_later(self):
        self.assertEqual(last(table(FOUR), delay(7, 0, 0, 9), earliest(A, 354, B))[2:], [7, 0, 0, 1, 369, 429])
        self.assertEqual(last(table(FOUR), delay(7, 0, 0, 9), latest(A, B, 430)), [0, 354])


class Cancel(unittest.TestCase):
    def test_how_many_are_cancelled(self):
        self.assertEqual(ask(table(EXAMPLE), cancel(7, 0), cancel(7, 13), cancel(7, 5))[1:], [[1], [2], [3]])

    def test_no_such_run(self):
        for trip, day in NO_RUNS:
            self.assertEqual(last(table(SOME_DAYS), cancel(trip, day)), [-5], (trip, day))
            self.assertEqual(last(table(SOME_DAYS), delay(trip, day, 0, 1)), [-5], (trip, day))
        for day in (3, 5, 8):
            self.assertEqual(last(table(SOME_DAYS), cancel(7, day)), [1])

    def test_no_timetable(self):
        self.assertEqual(ask(cancel(7, 0), delay(7, 0, 0, 1)), [[-5], [-5]])
        self.assertEqual(last(table(EXAMPLE), CLEAR, cancel(7, 0)), [-5])

    def test_first_and_last_day(self):
        self.assertEqual(ask(table(EXAMPLE), cancel(7, 0), cancel(7, 13), cancel(7, -1), cancel(7, 14))[1:], [[1], [2], [-5], [-5]])

    def test_a_trip_of_number_0(self):
        self.assertEqual(last(table("TRIP 0 CAP 1 1 CUT 0 / A - 0600 / B 0700 -"), cancel(0, 0)), [1])

    def test_a_cancelled_run_is_no_run(self):
        self.assertEqual(ask(table(EXAMPLE), cancel(7, 0), cancel(7, 0), delay(7, 0, 0, 1), cancel(7, 1))[2:], [[-5], [-5], [2]])

    def test_it_has_gone(self):
        self.assertEqual(last(table(EXAMPLE), time(360), cancel(7, 0)), [1])
        self.assertEqual(last(table(EXAMPLE), time(361), cancel(7, 0)), [-6])
        self.assertEqual(last(table(EXAMPLE), time(361), cancel(7, 1)), [1])

    def test_a_late_run_goes_later(self):
        self.assertEqual(last(table(EXAMPLE), delay(7, 0, 0, 10), time(370), cancel(7, 0)), [1])
        self.assertEqual(last(table(EXAMPLE), delay(7, 0, 0, 10), time(371), cancel(7, 0)), [-6])
        self.assertEqual(last(table(EXAMPLE), delay(7, 0, 1, 10), time(361), cancel(7, 0)), [-6])

    def test_no_such_run_counts_before_it_has_gone(self):
        self.assertEqual(last(table(EXAMPLE), cancel(7, 0), time(361), cancel(7, 0)), [-5])

    def test_a_refusal_changes_nothing(self):
        before = [table(EXAMPLE), delay(7, 1, 0, 3), cancel(7, 2), time(400)]
        plain = ask(*before, *looks())[4:]
        self.assertEqual(ask(*before, cancel(7, 0), cancel(7, 2), cancel(8, 1), *looks())[7:], plain)
        self.assertEqual(last(*before, cancel(7, 0), cancel(7, 2), cancel(8, 1), cancel(7, 1)), [2])


class Delay(unittest.TestCase):
    def test_when_it_goes_then(self):
        self.assertEqual(last(table(FOUR), delay(7, 2, 1, 5)), [2880 + 435])
        self.assertEqual(last(table(FOUR), delay(7, 2, 0, 7), delay(7, 2, 2, 9), delay(7, 2, 1, 5)), [2880 + 442])

    def test_stops_at_both_ends(self):
        for stop, told in ((-FAR, -1), (-1, -1), (0, 361), (2, 491), (3, -1), (4, -1), (FAR, -1)):
            self.assertEqual(last(table(FOUR), delay(7, 0, stop, 1)), [told])
        two = "TRIP 7 CAP 1 1 CUT 0 / A - 0600 / B 0700 -"
        self.assertEqual(ask(table(two), delay(7, 0, 0, 1), delay(7, 0, 1, 1))[1:], [[361], [-1]])

    def test_minutes_at_both_ends(self):
        for minutes, told in ((-FAR, -1), (-1, -1), (0, -1), (1, 361), (1000, 1360), (1001, -1), (FAR, -1)):
            self.assertEqual(last(table(FOUR), delay(7, 0, 0, minutes)), [told])

    def test_it_has_gone_from_this_stop(self):
        before = [table(FOUR), time(431)]
        self.assertEqual(last(*before, delay(7, 0, 0, 1)), [-6])
        self.assertEqual(last(*before, delay(7, 0, 1, 1)), [-6])
        self.assertEqual(last(*before, delay(7, 0, 2, 1)), [491])
        self.assertEqual(last(table(FOUR), time(430), delay(7, 0, 1, 1)), [431])
        self.assertEqual(last(table(FOUR), delay(7, 0, 0, 1), time(431), delay(7, 0, 1, 1)), [432])

    def test_forty_delays(self):
        forty = [table(FOUR)] + [delay(7, k % 14, k % 3, 1) for k in range(40)]
        self.assertNotIn([-3], ask(*forty))
        self.assertEqual(last(*forty, delay(7, 0, 0, 1)), [-3])
        self.assertEqual(last(*forty, delay(7, 13, 2, 1000)), [-3])

    def test_forty_delays_of_one_stop(self):
        self.assertEqual(last(table(FOUR), *[delay(7, 0, 0, 1000)] * 40), [40360])
        self.assertEqual(last(table(FOUR), *[delay(7, 0, 0, 1000)] * 41), [-3])

    def test_refused_delays_were_not_told(self):
        wrong = [delay(8, 0, 0, 1), delay(7, 0, 3, 1), delay(7, 0, 0, 0)] * 15
        self.assertEqual(last(table(FOUR), *wrong, *[delay(7, 0, 0, 1)] * 40), [400])

    def test_which_refusal_counts(self):
        forty = [table(FOUR)] + [delay(7, 5, 0, 1)] * 40 + [time(431)]
        self.assertEqual(last(*forty, delay(8, 0, 9, 0)), [-5])
        self.assertEqual(last(*forty, delay(7, 0, 9, 1)), [-1])
        self.assertEqual(last(*forty, delay(7, 0, 0, 0)), [-1])
        self.assertEqual(last(*forty, delay(7, 0, 0, 1)), [-6])
        self.assertEqual(last(*forty, delay(7, 0, 2, 1)), [-3])

    def test_a_refusal_changes_nothing(self):
        before = [table(FOUR), delay(7, 1, 0, 3), time(400)]
        plain = ask(*before, *looks())[3:]
        wrong = [delay(7, 0, 0, 5), delay(7, 1, 3, 5), delay(7, 1, -1, 5), delay(7, 1, 0, 1001), delay(7, 14, 0, 5)]
        self.assertEqual(ask(*before, *wrong, *looks())[8:], plain)


if __name__ == "__main__":
    unittest.main()
