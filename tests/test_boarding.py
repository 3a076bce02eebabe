"""used, board, run and runsof: what is asked of runs."""

import unittest

from tests.helper import (
    CLEAR, EXAMPLE, FAR, FOUR, NARROW, NO_RUNS, SOME_DAYS, ask, board, booked, cancel, delay, last, looks, post, row, run, runsof, table,
    time, used, withdraw,
)

A, B, C, D = 0, 1, 2, 3

# Of each way to ride by the stop B of FOUR: one ends there, one passes it, one begins there, one begins behind it.
ROUND_B = [post(1, A, B, 0, 1), post(2, A, C, 0, 2, 1), post(3, B, D, 1, 3), post(4, C, D, 1, 1, 5), post(5, B, C, 0, 1, 1, 400)]


class Used(unittest.TestCase):
    def test_nothing_rides(self):
        self.assertEqual(last(table(EXAMPLE), used(7, 0, 0)), [0, 0, 5, 5])
        self.assertEqual(last(table(EXAMPLE), post(1, amount=6), used(7, 0, 0)), [0, 0, 5, 5])

    def test_rooms(self):
        self.assertEqual(last(table(EXAMPLE.replace("CAP 5 5", "CAP 4 60")), used(7, 0, 0)), [0, 0, 4, 60])
        self.assertEqual(last(table(EXAMPLE.replace("CAP 5 5", "CAP 0 999")), used(7, 0, 0)), [0, 0, 0, 999])

    def test_letters_and_parcels(self):
        calls = [table(EXAMPLE), post(1, kind=0, amount=2), post(2, kind=1, amount=4), post(3, kind=0, amount=1)]
        self.assertEqual(last(*calls, used(7, 0, 0)), [3, 4, 5, 5])

    def test_rides_that_end_at_pass_and_begin_at_the_stop(self):
        calls = [table(FOUR)] + ROUND_B
        self.assertEqual(ask(*calls, used(7, 0, 0), used(7, 0, 1), used(7, 0, 2))[6:], [[3, 0, 5, 5], [3, 3, 5, 5], [0, 4, 5, 5]])

    def test_begun_and_booked(self):
        calls = [table(FOUR)] + ROUND_B + [time(400)]
        self.assertEqual(ask(*calls, used(7, 0, 0), used(7, 0, 1), used(7, 0, 2))[7:], [[3, 0, 5, 5], [3, 3, 5, 5], [0, 4, 5, 5]])
        self.assertEqual([told[1] for told in ask(*calls, *[booked(thing) for thing in range(1, 6)])[7:]], [1, 1, 0, 0, 0])

    def test_begun_rides_stay(self):
        calls = [table(FOUR)] + ROUND_B + [time(100000)]
        self.assertEqual(ask(*calls, used(7, 0, 0), used(7, 0, 1), used(7, 0, 2))[7:], [[3, 0, 5, 5], [3, 3, 5, 5], [0, 4, 5, 5]])

    def test_each_run_by_itself(self):
        calls = [table(EXAMPLE), post(1, amount=4), post(2, amount=3, rank=1), post(3, amount=1, rank=2)]
        self.assertEqual(ask(*calls, used(7, 0, 0), used(7, 1, 1), used(7, 2, 0))[4:], [[5, 0, 5, 5], [3, 0, 5, 5], [0, 0, 5, 5]])

    def test_each_trip_by_itself(self):
        calls = [table(NARROW), post(1, A, C, 0, 2), post(2, B, C, 1, 50)]
        self.assertEqual(ask(*calls, used(1, 0, 0), used(2, 0, 0))[3:], [[2, 0, 5, 5], [2, 50, 99, 99]])

    def test_booked_anew(self):
        calls = [table(EXAMPLE), post(1, amount=4), cancel(7, 0), used(7, 1, 0), withdraw(1), used(7, 1, 0)]
        self.assertEqual(ask(*calls)[3:], [[4, 0, 5, 5], [0], [0, 0, 5, 5]])


class Board(unittest.TestCase):
    def test_nothing_rides(self):
        self.assertEqual(last(table(EXAMPLE), board(7, 0, 0)), [0, 0])
        self.assertEqual(last(table(EXAMPLE), post(1, amount=6), board(7, 0, 0)), [0, 0])

    def test_rides_that_end_at_pass_and_begin_at_the_stop(self):
        calls = [table(FOUR)] + ROUND_B
        self.assertEqual(ask(*calls, board(7, 0, 0), board(7, 0, 1), board(7, 0, 2))[6:], [[2, 2, 1, 2], [2, 2, 3, 5], [1, 1, 4]])

    def test_begun_and_booked(self):
        calls = [table(FOUR), post(1, B, C), time(431), post(2, C, D, t=431)]
        self.assertEqual(ask(*calls, board(7, 0, 0), board(7, 0, 1), board(7, 0, 2))[4:], [[0, 0], [1, 1, 1], [1, 1, 2]])

    def test_begun_rides_stay(self):
        calls = [table(FOUR)] + ROUND_B + [time(100000)]
        self.assertEqual(ask(*calls, board(7, 0, 0), board(7, 0, 1), board(7, 0, 2))[7:], [[2, 2, 1, 2], [2, 2, 3, 5], [1, 1, 4]])

    def test_begun_and_booked_from_one_stop(self):
        # Nothing goes before a run has gone, so of one stop all rides are begun at once.
        calls = [table(EXAMPLE), post(1), post(2), time(360), board(7, 0, 0), time(361), board(7, 0, 0)]
        self.assertEqual(ask(*calls)[4::2], [[2, 2, 1, 2], [2, 2, 1, 2]])

    def test_letters_and_parcels(self):
        calls = [table(EXAMPLE), post(1, kind=1, amount=5), post(2, kind=0, amount=5)]
        self.assertEqual(last(*calls, board(7, 0, 0)), [2, 2, 1, 2])

    def test_in_the_order_of_things(self):
        calls = [table(EXAMPLE), post(1, rank=2), post(30, rank=1, t=9), post(4, rank=1, t=9), post(5, rank=1, t=300), post(2, rank=0, t=340)]
        self.assertEqual(last(*calls, board(7, 0, 0)), [5, 5, 2, 4, 30, 5, 1])
        self.assertEqual(last(*calls, time(400), board(7, 0, 0)), [5, 5, 2, 4, 30, 5, 1])

    def test_each_run_by_itself(self):
        calls = [table(EXAMPLE), post(1, amount=4), post(2, amount=3, rank=1), post(3, amount=1, rank=2)]
        self.assertEqual(ask(*calls, board(7, 0, 0), board(7, 1, 0), board(7, 2, 0))[4:], [[2, 2, 1, 3], [1, 1, 2], [0, 0]])

    def test_each_trip_by_itself(self):
        calls = [table(NARROW), post(1, A, C), post(2, B, C)]
        self.assertEqual(ask(*calls, board(1, 0, 0), board(2, 0, 0))[3:], [[1, 1, 1], [2, 2, 1, 2]])


class LeftAndTakenAgain(unittest.TestCase):
    """The run is full from B to C, where the thing 2 rides by the trip 8; behind that it takes the same run again."""

    CALLS = [table(FOUR + " / TRIP 8 CAP 1 1 CUT 0 / B - 0705 / C 0740 -"), post(1, B, C, amount=5), post(2, A, D, rank=1)]
    RIDES = row([7, 0, 0, 1, 360, 420], [8, 0, 0, 1, 425, 460], [7, 0, 2, 3, 490, 540])

    def test_booked(self):
        self.assertEqual(last(*self.CALLS, booked(2)), [0, 0, 544] + self.RIDES)
        self.assertEqual(last(*self.CALLS, time(430), booked(2)), [0, 2, 544] + self.RIDES)

    def test_used_and_board(self):
        for now in (0, 361, 430, 485, 9999):
            asked = [used(7, 0, 0), used(7, 0, 1), used(7, 0, 2), board(7, 0, 0), board(7, 0, 1), board(7, 0, 2)]
            self.assertEqual(ask(*self.CALLS, time(now), *asked)[4:], [
                [1, 0, 5, 5], [5, 0, 5, 5], [1, 0, 5, 5], [1, 1, 2], [1, 1, 1], [1, 1, 2],
            ])


class UsedAndBoardRefused(unittest.TestCase):
    def refusals(self, *calls):
        """What used and board answer of the last call's numbers: they are refused alike."""
        told = ask(*calls[:-1], [12] + calls[-1], [15] + calls[-1])[-2:]
        self.assertEqual(told[0], told[1])
        return told[0]

    def test_no_such_run(self):
        for trip, day in NO_RUNS:
            self.assertEqual(self.refusals(table(SOME_DAYS), [trip, day, 0]), [-5], (trip, day))
        self.assertEqual(self.refusals([7, 0, 0]), [-5])
        self.assertEqual(self.refusals(table(EXAMPLE), CLEAR, [7, 0, 0]), [-5])

    def test_first_and_last_day(self):
        self.assertEqual(ask(table(EXAMPLE), used(7, 0, 0), used(7, 13, 0), board(7, 0, 0), board(7, 13, 0))[1:],
                         [[0, 0, 5, 5], [0, 0, 5, 5], [0, 0], [0, 0]])
        for day in (-1, 14):
            self.assertEqual(self.refusals(table(EXAMPLE), [7, day, 0]), [-5])

    def test_a_cancelled_run(self):
        self.assertEqual(self.refusals(table(EXAMPLE), post(1), cancel(7, 0), [7, 0, 0]), [-5])

    def test_the_last_stop_and_beyond(self):
        for stop in (-FAR, -1, 3, 4, 5, FAR):
            self.assertEqual(self.refusals(table(FOUR), post(1), [7, 0, stop]), [-1], stop)
        for stop in (1, 2):
            self.assertEqual(self.refusals(table("TRIP 7 CAP 1 1 CUT 0 / A - 0600 / B 0700 -"), [7, 0, stop]), [-1], stop)

    def test_stops_at_both_ends(self):
        self.assertEqual(ask(table(FOUR), used(7, 0, 0), used(7, 0, 2), board(7, 0, 0), board(7, 0, 2))[1:],
                         [[0, 0, 5, 5], [0, 0, 5, 5], [0, 0], [0, 0]])

    def test_no_such_run_counts_first(self):
        for stop in (-1, 3, FAR):
            self.assertEqual(self.refusals(table(FOUR), [8, 0, stop]), [-5])
            self.assertEqual(self.refusals(table(FOUR), [7, 14, stop]), [-5])
            self.assertEqual(self.refusals(table(FOUR), cancel(7, 0), [7, 0, stop]), [-5])

    def test_nothing_changes(self):
        before = [table(FOUR)] + ROUND_B + [delay(7, 0, 2, 5), cancel(7, 1), time(361)]
        plain = ask(*before, *looks())[9:]
        asked = [used(7, 0, 1), used(7, 0, 3), used(7, 1, 0), board(7, 0, 1), board(7, 0, 3), board(7, 1, 0), run(7, 0), run(7, 1), run(8, 0)]
        for call in asked:
            self.assertEqual(ask(*before, call, *looks())[10:], plain, call)


class Run(unittest.TestCase):
    def test_as_told(self):
        self.assertEqual(last(table(EXAMPLE), run(7, 0)), [3, 9, A, 360, 360, B, 420, 430, C, 480, 480])
        self.assertEqual(last(table(EXAMPLE), run(7, 13)),
                         [3, 9, A, 18720 + 360, 18720 + 360, B, 18720 + 420, 18720 + 430, C, 18720 + 480, 18720 + 480])

    def test_two_and_five_stops(self):
        self.assertEqual(last(table("TRIP 0 CAP 0 0 CUT 99 / F - 0000 / A 4759 -"), run(0, 1)), [2, 6, 5, 1440, 1440, 0, 4319, 4319])
        lines = "MIN D 9 / TRIP 9999 CAP 1 1 CUT 0 / F - 0100 / E 0101 0101 / D 0102 0103 / C 0104 2400 / B 2401 -"
        self.assertEqual(last(table(lines), run(9999, 0)), [5, 15, 5, 60, 60, 4, 61, 61, D, 62, 63, C, 64, 1440, B, 1441, 1441])

    def test_delay_at_the_first_stop(self):
        self.assertEqual(last(table(EXAMPLE), delay(7, 0, 0, 5), run(7, 0)), [3, 9, A, 360, 365, B, 425, 435, C, 485, 485])

    def test_delay_at_a_stop_between(self):
        self.assertEqual(last(table(FOUR), delay(7, 0, 1, 5), run(7, 0)), [4, 12, A, 360, 360, B, 420, 435, C, 485, 495, D, 545, 545])

    def test_delay_at_the_last_stop_but_one(self):
        self.assertEqual(last(table(FOUR), delay(7, 0, 2, 5), run(7, 0)), [4, 12, A, 360, 360, B, 420, 430, C, 480, 495, D, 545, 545])

    def test_delays_at_all_stops(self):
        calls = [table(FOUR), delay(7, 0, 2, 400), delay(7, 0, 0, 1), delay(7, 0, 1, 20), delay(7, 0, 0, 2), delay(7, 1, 0, 999)]
        self.assertEqual(last(*calls, run(7, 0)), [4, 12, A, 360, 363, B, 423, 453, C, 503, 913, D, 963, 963])
        self.assertEqual(last(*calls, run(7, 2))[:5], [4, 12, A, 3240, 3240])

    def test_a_run_that_has_gone(self):
        self.assertEqual(last(table(EXAMPLE), time(100000), run(7, 0)), [3, 9, A, 360, 360, B, 420, 430, C, 480, 480])

    def test_no_such_run(self):
        for trip, day in NO_RUNS:
            self.assertEqual(last(table(SOME_DAYS), run(trip, day)), [-5], (trip, day))
        for day in (3, 5, 8):
            self.assertEqual(last(table(SOME_DAYS), run(7, day))[0], 2)

    def test_a_cancelled_run(self):
        self.assertEqual(ask(table(EXAMPLE), cancel(7, 0), run(7, 0), run(7, 1))[2:],
                         [[-5], [3, 9, A, 1800, 1800, B, 1860, 1870, C, 1920, 1920]])

    def test_no_table(self):
        self.assertEqual(ask(run(7, 0), table(EXAMPLE), CLEAR, run(7, 0), run(0, 0))[0::3], [[-5], [-5]])


class Runsof(unittest.TestCase):
    LINES = " / ".join([
        "TRIP 30 D=135 CAP 1 1 CUT 0 / A - 0600 / B 0700 -", "TRIP 2 V=3-8 CAP 1 1 CUT 0 / A - 0600 / B 0700 -",
        "TRIP 10 D=06 V=6-7 CAP 0 0 CUT 0 / A - 0600 / B 0700 -", "TRIP 0 D=1 V=2-7 CAP 1 1 CUT 0 / A - 0600 / B 0700 -",
    ])

    def days(self, *calls):
        told = ask(table(self.LINES), *calls, *[runsof(day) for day in range(14)])[-14:]
        self.assertEqual([part[:2] for part in told], [[0, len(part) - 2] for part in told])
        return [part[2:] for part in told]

    def test_no_trip(self):
        for day in range(14):
            self.assertEqual(last(runsof(day)), [0, 0])
            self.assertEqual(last(table(EXAMPLE), CLEAR, runsof(day)), [0, 0])

    def test_days_of_the_week_and_first_and_last_day(self):
        self.assertEqual(self.days(), [
            [], [30], [], [30, 2], [2], [30, 2], [2, 10], [2, 10], [30, 2], [], [30], [], [30], [],
        ])

    def test_cancelled_runs(self):
        self.assertEqual(self.days(cancel(30, 3), cancel(2, 4), cancel(2, 6), cancel(10, 7)), [
            [], [30], [], [2], [], [30, 2], [10], [2], [30, 2], [], [30], [], [30], [],
        ])

    def test_late_and_gone_runs_run(self):
        self.assertEqual(self.days(delay(30, 3, 0, 1000), delay(30, 3, 0, 1000), time(100000)), self.days())

    def test_as_in_the_timetable(self):
        six = " / ".join([f"TRIP {number} CAP 1 1 CUT 0 / A - 0600 / B 0700 -" for number in (5, 9999, 0, 3, 4, 1)])
        for day in range(14):
            self.assertEqual(last(table(six), runsof(day)), [0, 6, 5, 9999, 0, 3, 4, 1])

    def test_out_of_range(self):
        for day in (-FAR, -1, 14, FAR):
            self.assertEqual(last(table(EXAMPLE), runsof(day)), [-1])
            self.assertEqual(last(runsof(day)), [-1])
        self.assertEqual(ask(table(EXAMPLE), runsof(0), runsof(13))[1:], [[0, 1, 7], [0, 1, 7]])

    def test_nothing_changes(self):
        before = [table(EXAMPLE), cancel(7, 1), post(1), time(361)]
        self.assertEqual(ask(*before, runsof(0), runsof(1), runsof(14), *looks())[7:], ask(*before, *looks())[4:])


if __name__ == "__main__":
    unittest.main()
