"""post and time: promises, booking, and rides begun."""

import unittest

from tests.helper import CLEAR, EXAMPLE, FAR, NARROW, ask, cancel, delay, earliest, last, looks, post, table, table_of, time

A, B, C, D = 0, 1, 2, 3

# The trip 2 comes first but goes last.
SLOW_AND_FAST = "TRIP 1 CAP 5 5 CUT 0 / A - 0600 / C 2000 - / TRIP 2 V=0-0 CAP 5 5 CUT 0 / A - 0700 / C 0800 -"


class Post(unittest.TestCase):
    def test_promise(self):
        self.assertEqual(ask(table(EXAMPLE), post(1), post(2, t=345), post(3, t=346), post(4, A, B))[1:],
                         [[0, 480], [0, 480], [0, 1920], [0, 430]])

    def test_no_promise(self):
        self.assertEqual(last(post(1)), [0, -1])
        self.assertEqual(last(table(EXAMPLE), post(1, C, A)), [0, -1])
        self.assertEqual(last(table(EXAMPLE), post(1, t=13 * 1440 + 346)), [0, -1])
        self.assertEqual(last(table(EXAMPLE), post(1, t=13 * 1440 + 345)), [0, 13 * 1440 + 480])

    def test_whatever_room_there_is(self):
        self.assertEqual(last(table("TRIP 7 CAP 0 0 CUT 0 / A - 0600 / C 0700 -"), post(1, amount=999)), [0, 420])
        self.assertEqual(last(table(EXAMPLE), post(1, amount=5), post(2, amount=5)), [0, 480])

    def test_rides_that_have_gone(self):
        self.assertEqual(last(table(EXAMPLE), time(360), post(1, t=360)), [0, 1920])
        self.assertEqual(last(table(EXAMPLE.replace("CUT 15", "CUT 0")), time(360), post(1, t=360)), [0, 480])
        self.assertEqual(last(table(EXAMPLE.replace("CUT 15", "CUT 0")), time(361), post(1, t=361)), [0, 1920])

    def test_late_and_cancelled_runs(self):
        self.assertEqual(last(table(EXAMPLE), delay(7, 0, 1, 30), post(1)), [0, 510])
        self.assertEqual(last(table(EXAMPLE), cancel(7, 0), post(1)), [0, 1920])

    def test_ranges(self):
        ends = {1: (1, 9999), 2: (0, 5), 3: (0, 5), 4: (0, 1), 5: (1, 999), 6: (0, 9), 7: (0, 100000)}
        for place, pair in ends.items():
            for number in (pair[0], pair[1]):
                call = post(1, A if number == 5 else 5, D)
                call[place] = number
                self.assertEqual(last(call), [0, -1], call)
            for number in (-FAR, pair[0] - 1, pair[1] + 1, FAR):
                call = post(1, 5, D)
                call[place] = number
                self.assertEqual(last(call), [-1], call)

    def test_to_another_office(self):
        for office in range(6):
            self.assertEqual(last(post(1, office, office)), [-1])

    def test_number_is_taken(self):
        self.assertEqual(ask(post(1), post(1), post(2), post(1, B, A, 1, 7, 7, 7)), [[0, -1], [-4], [0, -1], [-4]])

    def test_ten_things(self):
        ten = [post(number) for number in range(1, 11)]
        self.assertEqual(ask(*ten, post(11)), [[0, -1]] * 10 + [[-3]])

    def test_time_is_before_the_present(self):
        self.assertEqual(last(time(500), post(1, t=499)), [-7])
        self.assertEqual(last(time(500), post(1, t=500)), [0, -1])

    def test_which_refusal_counts(self):
        ten = [post(number) for number in range(1, 11)] + [time(500)]
        self.assertEqual(last(*ten, post(1, amount=0)), [-1])
        self.assertEqual(last(*ten, post(1, A, A)), [-1])
        self.assertEqual(last(*ten, post(1, t=-1)), [-1])
        self.assertEqual(last(*ten, post(1)), [-4])
        self.assertEqual(last(*ten, post(11)), [-3])
        self.assertEqual(last(post(1), time(500), post(2)), [-7])
        self.assertEqual(last(post(1), time(500), post(1)), [-4])

    def test_a_refusal_changes_nothing(self):
        before = [table(EXAMPLE), time(100)]
        wrong = [post(0, t=100), post(1, A, A, t=100), post(1, t=99), post(1, t=100001)]
        plain = ask(*before, *looks(), table_of([]))[2:]
        self.assertEqual(ask(*before, *wrong, *looks(), table_of([]))[6:], plain)
        self.assertEqual(plain[-1], [0, 0])
        ten = [table(EXAMPLE)] + [post(number) for number in range(1, 11)]
        self.assertEqual(ask(*ten, post(1), post(11), time(361))[11:], [[-4], [-3], [5]])

    def test_clear_forgets_things_and_time(self):
        self.assertEqual(ask(post(1), time(500), CLEAR, post(1), time(0), table_of([])), [[0, -1], [0], [0], [0, -1], [0], [-10]])


class Time(unittest.TestCase):
    def test_ranges(self):
        for t, told in ((-FAR, -1), (-1, -1), (0, 0), (100000, 0), (100001, -1), (FAR, -1)):
            self.assertEqual(last(time(t)), [told])

    def test_before_the_present_time(self):
        self.assertEqual(ask(time(5), time(4), time(5), time(6), time(5)), [[0], [-7], [0], [0], [-7]])

    def test_out_of_range_counts_first(self):
        self.assertEqual(last(time(5), time(-1)), [-1])

    def test_a_refusal_changes_nothing(self):
        calls = [table(EXAMPLE), post(1), time(300), time(299), time(100001), time(-1), time(300), time(361)]
        self.assertEqual(ask(*calls)[2:], [[0], [-7], [-1], [-1], [0], [1]])

    def test_rides_that_go_before_t_are_begun(self):
        self.assertEqual(ask(table(EXAMPLE), post(1), time(360), time(361), time(362))[2:], [[0], [1], [0]])
        self.assertEqual(ask(table(NARROW), post(1), time(361), time(480), time(481))[2:], [[1], [0], [1]])
        self.assertEqual(ask(table(NARROW), post(1), time(481), time(100000))[2:], [[2], [0]])

    def test_who_is_there_rides_no_more(self):
        self.assertEqual(ask(table(EXAMPLE), post(1), time(400), time(100000))[2:], [[1], [0]])

    def test_without_a_way_nothing_is_begun(self):
        self.assertEqual(last(table(EXAMPLE), post(1, C, A), time(100000)), [0])

    def test_all_is_booked_before_time_goes_on(self):
        # Of ten things of 1 the run takes five a day, letters and parcels apart.
        letters = [post(number) for number in range(1, 8)]
        parcels = [post(number, kind=1) for number in range(8, 11)]
        self.assertEqual(ask(table(EXAMPLE), *letters, *parcels, time(361), time(1801))[11:], [[8], [2]])
        self.assertEqual(last(table(EXAMPLE), *letters, *parcels, time(100000)), [10])


class Room(unittest.TestCase):
    def begun_on_day_0(self, lines, *things):
        return last(table(lines), *things, time(1440))[0]

    def test_just_full(self):
        self.assertEqual(self.begun_on_day_0(EXAMPLE, post(1, amount=2), post(2, amount=3)), 2)
        self.assertEqual(self.begun_on_day_0(EXAMPLE, post(1, amount=3), post(2, amount=3)), 1)
        self.assertEqual(self.begun_on_day_0(EXAMPLE, post(1, amount=5)), 1)
        self.assertEqual(self.begun_on_day_0(EXAMPLE, post(1, amount=6)), 0)

    def test_kinds_have_their_own_room(self):
        lines = EXAMPLE.replace("CAP 5 5", "CAP 4 6")
        self.assertEqual(self.begun_on_day_0(lines, post(1, amount=4), post(2, amount=6, kind=1)), 2)
        self.assertEqual(self.begun_on_day_0(lines, post(1, amount=5)), 0)
        self.assertEqual(self.begun_on_day_0(lines, post(1, amount=7, kind=1)), 0)
        self.assertEqual(self.begun_on_day_0(EXAMPLE.replace("CAP 5 5", "CAP 0 5"), post(1), post(2, kind=1)), 1)

    def test_between_single_stops(self):
        ahead = post(1, A, B, amount=4)
        behind = post(2, B, C, amount=4)
        through = post(3, A, C, amount=4, rank=1)
        self.assertEqual(self.begun_on_day_0(EXAMPLE, ahead, behind), 2)
        self.assertEqual(self.begun_on_day_0(EXAMPLE, ahead, through), 1)
        self.assertEqual(self.begun_on_day_0(EXAMPLE, behind, through), 1)
        self.assertEqual(self.begun_on_day_0(EXAMPLE, post(3, A, C, amount=4), post(1, A, B, amount=4, rank=1), post(2, B, C, amount=4, rank=1)), 1)

    def test_amounts_of_things_that_never_meet_are_not_added(self):
        # 3 from A to B, 3 from B to C: at most 3 ride at once, so 2 more may ride all the way.
        things = [post(1, A, B, amount=3), post(2, B, C, amount=3), post(3, A, C, amount=2, rank=1)]
        self.assertEqual(self.begun_on_day_0(EXAMPLE, *things), 3)
        self.assertEqual(self.begun_on_day_0(EXAMPLE, *things[:2], post(3, A, C, amount=3, rank=1)), 2)

    def test_a_full_leg_is_gone_round(self):
        # The run from A to C is full from A to B; who can wait at no other office takes the trip 8.
        lines = EXAMPLE + " / TRIP 8 V=0-0 CAP 9 9 CUT 0 / A - 0500 / B 0530 -"
        self.assertEqual(self.begun_on_day_0(lines, post(1, amount=5), post(2, A, B, amount=1, rank=1)), 2)
        # By the trip 8 to B, and on by the trip 7 from there: two rides.
        self.assertEqual(self.begun_on_day_0(lines, post(1, A, B, amount=5, t=340), post(2, A, C, amount=5, rank=1)), 3)

    def test_each_run_has_its_own_room(self):
        things = [post(number, amount=5, rank=number) for number in range(1, 6)]
        self.assertEqual(ask(table(EXAMPLE), *things, *[time(361 + 1440 * day) for day in range(6)])[6:], [[1]] * 5 + [[0]])


class Order(unittest.TestCase):
    """Of two things that don't both fit into the trip 1: two rides are begun on day 0 if that for C is booked ahead, one if that for B."""

    def begun(self, for_b, for_c):
        told = [last(table(NARROW), first, second, time(1440)) for first, second in ((for_b, for_c), (for_c, for_b))]
        self.assertEqual(told[0], told[1])
        return told[0][0]

    def test_ranks_first(self):
        self.assertEqual(self.begun(post(1, A, B, amount=4, rank=1, t=0), post(2, A, C, amount=4, rank=0, t=9)), 2)
        self.assertEqual(self.begun(post(2, A, B, amount=4, rank=0, t=9), post(1, A, C, amount=4, rank=1, t=0)), 1)

    def test_then_when_ready(self):
        self.assertEqual(self.begun(post(1, A, B, amount=4, rank=3, t=9), post(2, A, C, amount=4, rank=3, t=8)), 2)
        self.assertEqual(self.begun(post(2, A, B, amount=4, rank=3, t=8), post(1, A, C, amount=4, rank=3, t=9)), 1)

    def test_then_numbers(self):
        self.assertEqual(self.begun(post(10, A, B, amount=4), post(9, A, C, amount=4)), 2)
        self.assertEqual(self.begun(post(9, A, B, amount=4), post(10, A, C, amount=4)), 1)


class BookedAnew(unittest.TestCase):
    def test_a_cancelled_run(self):
        self.assertEqual(ask(table(EXAMPLE), post(1), cancel(7, 0), time(1800), time(1801))[3:], [[0], [1]])

    def test_a_later_thing_of_less_rank(self):
        calls = [table(NARROW), post(1, A, B, amount=4, rank=1), post(2, A, C, amount=4, rank=0), time(1440), time(2880)]
        self.assertEqual(ask(*calls)[3:], [[2], [1]])

    def test_a_late_run_misses_the_next(self):
        self.assertEqual(ask(table(NARROW), post(1), delay(1, 0, 0, 60), time(1440))[3], [2])
        self.assertEqual(ask(table(NARROW), post(1), delay(1, 0, 0, 61), time(1440), time(1921))[3:], [[1], [1]])

    def test_a_late_run_is_begun_later(self):
        self.assertEqual(ask(table(EXAMPLE), post(1), delay(7, 0, 0, 40), time(400), time(401))[3:], [[0], [1]])

    def test_a_late_run_is_taken_by_who_would_have_missed_it(self):
        self.assertEqual(ask(table(EXAMPLE), post(1, t=350), time(1440))[2], [0])
        self.assertEqual(ask(table(EXAMPLE), post(1, t=350), delay(7, 0, 0, 5), time(1440))[3], [1])

    def test_where_a_thing_stands(self):
        calls = [table(NARROW), post(1), time(400), cancel(2, 0), time(1920), time(1921)]
        self.assertEqual(ask(*calls)[2:], [[1], [1], [0], [1]])

    def test_a_begun_ride_comes_late(self):
        lines = "MIN C 5 / TRIP 1 CAP 9 9 CUT 0 / A - 0600 / B 0700 0700 / C 0800 - / TRIP 2 CAP 9 9 CUT 5 / C - 0830 / D 0900 -"
        calls = [table(lines), post(1, A, D), time(361)]
        self.assertEqual(ask(*calls, time(1440))[2:], [[1], [1]])
        self.assertEqual(ask(*calls, delay(1, 0, 1, 20), time(1440))[2:], [[1], [440], [1]])
        self.assertEqual(ask(*calls, delay(1, 0, 1, 21), time(1440), time(1951))[2:], [[1], [441], [0], [1]])

    def test_gone_rides_are_not_booked(self):
        calls = [table(SLOW_AND_FAST), post(1)]
        self.assertEqual(ask(*calls, time(360), cancel(2, 0), time(361))[2:], [[0], [1], [1]])
        self.assertEqual(ask(*calls, time(361), cancel(2, 0), time(1800), time(1801))[2:], [[0], [1], [0], [1]])

    def test_begun_rides_keep_their_room(self):
        calls = [table(EXAMPLE), post(1, amount=4, rank=9), time(361), post(2, B, C, amount=4, rank=0, t=361)]
        self.assertEqual(ask(*calls, time(431), time(1870), time(1871))[2:], [[1], [0, 480], [0], [0], [1]])

    def test_begun_rides_take_no_more_than_their_room(self):
        calls = [table(EXAMPLE), post(1, A, B, amount=4, rank=9), time(361), post(2, B, C, amount=4, rank=0, t=361)]
        self.assertEqual(last(*calls, time(431)), [1])

    def test_things_post_and_queries_begin_nothing(self):
        calls = [table(EXAMPLE), post(1), earliest(A, 0, C), post(2), time(360), time(361)]
        self.assertEqual(ask(*calls)[-2:], [[0], [2]])


if __name__ == "__main__":
    unittest.main()
