"""booked and late: the rides of a thing, and its promise."""

import unittest

from tests.helper import (
    CLEAR, EXAMPLE, FAR, FOUR, NARROW, ask, booked, cancel, delay, last, late, looks, post, row, table, time, withdraw,
)

A, B, C, D = 0, 1, 2, 3

# Who rides from A to C by the trip 1 rides on to D by the trip 2, if it is ready at C at 505.
LINKED = "MIN C 5 / TRIP 1 CAP 9 9 CUT 0 / A - 0600 / B 0700 0700 / C 0800 - / TRIP 2 CAP 9 9 CUT 5 / C - 0830 / D 0900 -"

ALL_DAYS_OF_TRIP_2 = [cancel(2, day) for day in range(14)]


class Booked(unittest.TestCase):
    def test_booked_rides_alone(self):
        self.assertEqual(last(table(EXAMPLE), post(1), booked(1)), [0, 0, 480] + row([7, 0, 0, 2, 360, 480]))
        self.assertEqual(last(table(EXAMPLE), post(1, A, B, t=346), booked(1)), [0, 0, 1870] + row([7, 1, 0, 1, 1800, 1860]))

    def test_two_booked_rides(self):
        self.assertEqual(last(table(NARROW), post(1), booked(1)), [0, 0, 540] + row([1, 0, 0, 1, 360, 420], [2, 0, 0, 1, 480, 540]))

    def test_begun_and_booked_rides(self):
        calls = [table(NARROW), post(1), time(361)]
        self.assertEqual(last(*calls, booked(1)), [0, 1, 540] + row([1, 0, 0, 1, 360, 420], [2, 0, 0, 1, 480, 540]))
        self.assertEqual(last(*calls, cancel(2, 0), booked(1)), [0, 1, 1980] + row([1, 0, 0, 1, 360, 420], [2, 1, 0, 1, 1920, 1980]))

    def test_begun_rides_alone(self):
        self.assertEqual(last(table(EXAMPLE), post(1), time(361), booked(1)), [0, 1, 480] + row([7, 0, 0, 2, 360, 480]))
        self.assertEqual(last(table(NARROW), post(1), time(481), booked(1)),
                         [0, 2, 540] + row([1, 0, 0, 1, 360, 420], [2, 0, 0, 1, 480, 540]))

    def test_a_thing_that_stands_at_its_to(self):
        told = [0, 1, 430] + row([7, 0, 0, 1, 360, 420])
        self.assertEqual(ask(table(EXAMPLE), post(1, A, B), time(430), booked(1), time(100000), booked(1))[3::2], [told, told])

    def test_begun_one_ride_after_another(self):
        calls = [table(NARROW), post(1), time(360), booked(1), time(361), booked(1), time(480), booked(1), time(481), booked(1)]
        self.assertEqual([told[:3] for told in ask(*calls)[3::2]], [[0, 0, 540], [0, 1, 540], [0, 1, 540], [0, 2, 540]])

    def test_not_booked_without_begun_rides(self):
        self.assertEqual(last(post(1), booked(1)), [1, 0, 0])
        self.assertEqual(last(table(EXAMPLE), post(1, C, A), booked(1)), [1, 0, 0])
        self.assertEqual(last(table(EXAMPLE), post(1, amount=6), booked(1)), [1, 0, 0])
        self.assertEqual(last(table(EXAMPLE), post(1, t=13 * 1440 + 346), booked(1)), [1, 0, 0])

    def test_not_booked_with_begun_rides(self):
        calls = [table(NARROW), post(1), time(400)] + ALL_DAYS_OF_TRIP_2
        self.assertEqual(last(*calls, booked(1)), [1, 1] + row([1, 0, 0, 1, 360, 420]))
        self.assertEqual(last(*calls, time(100000), booked(1)), [1, 1] + row([1, 0, 0, 1, 360, 420]))

    def test_rides_that_have_gone_are_not_booked(self):
        calls = [table(EXAMPLE), post(1, amount=5), post(2, amount=5, rank=1)]
        self.assertEqual(last(*calls, time(1800), booked(2))[:3], [0, 0, 1920])
        late_posted = [table(EXAMPLE.replace("CUT 15", "CUT 0")), time(361), post(1, t=361)]
        self.assertEqual(last(*late_posted, booked(1)), [0, 0, 1920] + row([7, 1, 0, 2, 1800, 1920]))

    def test_what_goes_at_the_present_time_has_not_gone(self):
        calls = [table(EXAMPLE.replace("CUT 15", "CUT 0")), time(360), post(1, t=360)]
        self.assertEqual(last(*calls, booked(1)), [0, 0, 480] + row([7, 0, 0, 2, 360, 480]))

    def test_all_rides_have_gone(self):
        self.assertEqual(last(table(EXAMPLE), post(1, amount=6), time(100000), booked(1)), [1, 0, 0])

    def test_less_room(self):
        calls = [table(EXAMPLE), post(2, amount=4, rank=1), post(1, amount=4)]
        self.assertEqual(ask(*calls, booked(1), booked(2))[3:],
                         [[0, 0, 480] + row([7, 0, 0, 2, 360, 480]), [0, 0, 1920] + row([7, 1, 0, 2, 1800, 1920])])

    def test_begun_rides_take_room_before_all(self):
        calls = [table(EXAMPLE), post(1, amount=4, rank=9), time(361), post(2, B, C, amount=2, rank=0, t=361)]
        self.assertEqual(last(*calls, booked(2)), [0, 0, 1920] + row([7, 1, 1, 2, 1870, 1920]))

    def test_a_full_leg_is_gone_round(self):
        # The run is full from A to B, so one rides there by the trip 8.
        lines = EXAMPLE + " / TRIP 8 V=0-0 CAP 9 9 CUT 0 / A - 0500 / B 0530 -"
        calls = [table(lines), post(1, A, B, amount=5, t=340), post(2, A, C, amount=5, rank=1)]
        self.assertEqual(last(*calls, booked(1)), [0, 0, 430] + row([7, 0, 0, 1, 360, 420]))
        self.assertEqual(last(*calls, booked(2)), [0, 0, 480] + row([8, 0, 0, 1, 300, 330], [7, 0, 1, 2, 430, 480]))


class BookedDelays(unittest.TestCase):
    def test_of_booked_rides(self):
        calls = [table(EXAMPLE), post(1)]
        self.assertEqual(last(*calls, delay(7, 0, 0, 9), booked(1)), [0, 0, 489] + row([7, 0, 0, 2, 369, 489]))
        self.assertEqual(last(*calls, delay(7, 0, 1, 9), booked(1)), [0, 0, 489] + row([7, 0, 0, 2, 360, 489]))

    def test_of_begun_rides(self):
        calls = [table(EXAMPLE), post(1), time(361)]
        self.assertEqual(last(*calls, delay(7, 0, 1, 20), booked(1)), [0, 1, 500] + row([7, 0, 0, 2, 360, 500]))
        self.assertEqual(last(*calls, delay(7, 0, 1, 20), delay(7, 0, 1, 1), booked(1)), [0, 1, 501] + row([7, 0, 0, 2, 360, 501]))

    def test_told_before_the_ride_was_begun(self):
        calls = [table(EXAMPLE), post(1), delay(7, 0, 0, 5), time(366), delay(7, 0, 1, 20), booked(1)]
        self.assertEqual(last(*calls), [0, 1, 505] + row([7, 0, 0, 2, 365, 505]))

    def test_at_the_stop_where_one_leaves(self):
        calls = [table(FOUR), post(1), time(361), delay(7, 0, 2, 30), booked(1)]
        self.assertEqual(last(*calls), [0, 1, 482] + row([7, 0, 0, 2, 360, 480]))

    def test_a_late_begun_ride_and_the_next(self):
        calls = [table(LINKED), post(1, A, D), time(361)]
        self.assertEqual(last(*calls, delay(1, 0, 1, 20), booked(1)), [0, 1, 540] + row([1, 0, 0, 2, 360, 500], [2, 0, 0, 1, 510, 540]))
        self.assertEqual(last(*calls, delay(1, 0, 1, 21), booked(1)), [0, 1, 1980] + row([1, 0, 0, 2, 360, 501], [2, 1, 0, 1, 1950, 1980]))

    def test_a_late_run_is_no_longer_the_earliest(self):
        lines = EXAMPLE + " / TRIP 8 V=0-0 CAP 9 9 CUT 0 / A - 0600 / C 0830 -"
        calls = [table(lines), post(1)]
        self.assertEqual(last(*calls, delay(7, 0, 1, 30), booked(1)), [0, 0, 510] + row([7, 0, 0, 2, 360, 510]))
        self.assertEqual(last(*calls, delay(7, 0, 1, 31), booked(1)), [0, 0, 510] + row([8, 0, 0, 1, 360, 510]))


class BookedRefused(unittest.TestCase):
    def test_no_such_thing(self):
        for number in (-FAR, -1, 0, 2, 9998, 10000, FAR):
            calls = [table(EXAMPLE), post(1), post(9999)]
            self.assertEqual(ask(*calls, booked(number), late(number))[3:], [[-4], [-4]], number)
            self.assertEqual(ask(booked(number), late(number)), [[-4], [-4]], number)

    def test_numbers_at_both_ends(self):
        calls = [table(EXAMPLE), post(1), post(9999)]
        told = [0, 0, 480] + row([7, 0, 0, 2, 360, 480])
        self.assertEqual(ask(*calls, booked(1), booked(9999), late(1), late(9999))[3:], [told, told, [0, 0], [0, 0]])

    def test_withdrawn_or_cleared(self):
        self.assertEqual(ask(table(EXAMPLE), post(1), withdraw(1), booked(1), late(1))[3:], [[-4], [-4]])
        self.assertEqual(ask(table(EXAMPLE), post(1), CLEAR, booked(1), late(1))[3:], [[-4], [-4]])

    def test_nothing_changes(self):
        before = [table(NARROW), post(1), post(2, amount=5), post(3, C, A), delay(1, 1, 0, 5), cancel(2, 3), time(361)]
        asked = [booked(1), booked(2), booked(3), booked(4), late(1), late(2), late(3), late(4)]
        self.assertEqual(ask(*before, *asked, *looks())[15:], ask(*before, *looks())[7:])

    def test_nothing_is_begun_by_asking(self):
        calls = [table(EXAMPLE), post(1), booked(1), late(1), booked(1), withdraw(1)]
        self.assertEqual(last(*calls), [0])


class Late(unittest.TestCase):
    def test_in_time(self):
        self.assertEqual(last(table(EXAMPLE), post(1), late(1)), [0, 0])
        self.assertEqual(last(table(NARROW), post(1), late(1)), [0, 0])

    def test_a_delay(self):
        self.assertEqual(last(table(EXAMPLE), post(1), delay(7, 0, 1, 20), late(1)), [0, 20])
        self.assertEqual(last(table(EXAMPLE), post(1, A, B), delay(7, 0, 1, 20), late(1)), [0, 0])

    def test_a_delay_told_before_the_promise(self):
        self.assertEqual(last(table(EXAMPLE), delay(7, 0, 1, 20), post(1), late(1)), [0, 0])

    def test_a_cancelled_run(self):
        self.assertEqual(last(table(EXAMPLE), post(1), cancel(7, 0), late(1)), [0, 1440])
        self.assertEqual(last(table(EXAMPLE), cancel(7, 0), post(1), late(1)), [0, 0])

    def test_less_room(self):
        calls = [table(EXAMPLE), post(1, amount=4), post(2, amount=4, rank=1), post(3, amount=4, rank=2)]
        self.assertEqual(ask(*calls, late(1), late(2), late(3))[4:], [[0, 0], [0, 1440], [0, 2880]])

    def test_minutes_of_the_office_count(self):
        self.assertEqual(last(table(EXAMPLE), post(1, A, B), cancel(7, 0), late(1)), [0, 1440])

    def test_of_begun_rides(self):
        calls = [table(EXAMPLE), post(1), time(361)]
        self.assertEqual(ask(*calls, late(1), delay(7, 0, 1, 7), late(1), time(100000), late(1))[3::2], [[0, 0], [0, 7], [0, 7]])

    def test_earlier_than_promised(self):
        # Who was ready too late for the run of day 0 takes it as it goes later.
        self.assertEqual(last(table(EXAMPLE), post(1, t=350), delay(7, 0, 0, 5), late(1)), [0, 485 - 1920])

    def test_no_promise(self):
        self.assertEqual(last(post(1), late(1)), [-8])
        self.assertEqual(last(table(EXAMPLE), post(1, C, A), late(1)), [-8])

    def test_no_promise_but_booked(self):
        ready = 13 * 1440 + 346
        calls = [table(EXAMPLE), post(1, t=ready), delay(7, 13, 0, 1)]
        self.assertEqual(ask(*calls, booked(1), late(1))[1:],
                         [[0, -1], [ready + 15], [0, 0, ready + 135] + row([7, 13, 0, 2, ready + 15, ready + 135]), [-8]])

    def test_a_promise_but_not_booked(self):
        self.assertEqual(ask(table(EXAMPLE), post(1, amount=6), late(1))[1:], [[0, 480], [-8]])
        self.assertEqual(last(table(NARROW), post(1), time(400), *ALL_DAYS_OF_TRIP_2, late(1)), [-8])

    def test_booked_again(self):
        calls = [table(NARROW), post(1, B, C), post(2, B, C, amount=99, rank=1)] + ALL_DAYS_OF_TRIP_2[2:]
        self.assertEqual(ask(*calls, late(2), cancel(2, 1), late(2), withdraw(1), late(2))[-5:], [[0, 1440], [13], [-8], [1], [0, 0]])

    def test_a_promise_stays(self):
        calls = [table(EXAMPLE), post(1), cancel(7, 0), time(400), cancel(7, 1), delay(7, 2, 0, 3), late(1)]
        self.assertEqual(last(*calls), [0, 2880 + 3])


if __name__ == "__main__":
    unittest.main()
