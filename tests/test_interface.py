"""How calls are handed in and answers given back."""

import builtins
import contextlib
import io
import unittest
from unittest import mock

from tests.helper import (
    CLEAR, COUNTS, EXAMPLE, ORDER, SHOW, bests, board, booked, cancel, delay, earliest, joined, late, latest, looks, post, run, runsof, table,
    table_of, text, time, used, withdraw,
)
from timetable.offices import answers

ALL = [
    SHOW, COUNTS, table(EXAMPLE), SHOW, cancel(7, 3), delay(7, 0, 1, 5), earliest(0, 0, 2), bests(0, 0, 2), latest(0, 2, 500), post(1),
    post(2, t=345), delay(7, 0, 0, 1), booked(2), used(7, 0, 0), board(7, 0, 0), run(7, 0), runsof(3), late(2), ORDER, time(400), time(3),
    withdraw(2), post(3, 2, 0, t=500), booked(3), late(3), withdraw(3), withdraw(3), COUNTS, cancel(8, 0), table_of([256]), table_of([1, 2, 3]),
    CLEAR, table("what"), SHOW, earliest(0, 0, 2), earliest(0, 7, 0), ORDER, runsof(0),
]


class Forms(unittest.TestCase):
    def test_every_call(self):
        shown = text(EXAMPLE)
        self.assertEqual(answers(joined(ALL)), joined([
            [2, 0, 0], [5, 0, 0, 0, 0, 0], [2, 0, 1], [2 + len(shown), 1, len(shown)], shown, [1, 1], [1, 435],
            [8, 485, 6, 7, 0, 0, 2, 360, 485], [4, 1, 2, 1, 485], [2, 0, 345], [2, 0, 485], [2, 0, 485], [1, 361],
            [10, 0, 0, 486, 6, 7, 0, 0, 2, 361, 486], [4, 2, 0, 5, 5], [4, 2, 2, 1, 2],
            [11, 3, 9, 0, 360, 361, 1, 421, 436, 2, 486, 486], [2, 0, 0], [2, 0, 1], [4, 2, 2, 1, 2], [1, 2], [1, -7],
            [1, -9], [2, 0, -1], [3, 1, 0, 0], [1, -8], [1, 2], [1, -4], [5, 400, 1, 1, 2, 2], [1, -5], [1, -10], [1, -10],
            [1, 0], [3, 1, 1, 1], [2, 0, 0], [1, -8], [2, 7, 0], [2, 0, 0], [2, 0, 0],
        ]))

    def test_numbers_below_0_behind_the_first(self):
        calls = [table(EXAMPLE), post(1, t=350), delay(7, 0, 0, 5), late(1), post(2, 2, 0)]
        self.assertEqual(answers(joined(calls)), [2, 0, 1, 2, 0, 1920, 1, 365, 2, 0, -1435, 2, 0, -1])

    def test_the_longest_rows(self):
        chain = " / ".join([f"TRIP {n} V=0-0 CAP 1 1 CUT 0 / {'ABCDEF'[n]} - 0{n}00 / {'ABCDEF'[n + 1]} 0{n}30 -" for n in range(5)])
        told = answers(joined([table(chain), post(1, 0, 5), time(121), booked(1)]))
        self.assertEqual(told[8:], [34, 0, 3, 270, 30] + joined([[n, 0, 0, 1, 60 * n, 60 * n + 30] for n in range(5)]))

    def test_one_call(self):
        self.assertEqual(answers([0]), [1, 0])
        self.assertEqual(answers([1, 0]), [2, 0, 0])
        self.assertEqual(answers([2]), [2, 0, 0])
        self.assertEqual(answers([5, 9]), [1, 0])
        self.assertEqual(answers([10, 1]), [1, -4])
        self.assertEqual(answers([14]), [2, 0, 0])
        self.assertEqual(answers([16, 13]), [2, 0, 0])
        self.assertEqual(answers([18]), [5, 0, 0, 0, 0, 0])

    def test_numbers_of_a_text_are_no_calls(self):
        self.assertEqual(answers([1, 3, 0, 1, 2, 2]), [3, 1, 1, 1, 2, 0, 0])

    def test_only_whole_numbers_in_a_list(self):
        told = answers(joined(ALL))
        self.assertIs(type(told), list)
        self.assertEqual({type(number) for number in told}, {int})

    def test_clear_is_a_new_beginning(self):
        before = [table(EXAMPLE), cancel(7, 3), delay(7, 0, 1, 5), post(1), time(400), CLEAR]
        begun_anew = answers(joined(before + [table(EXAMPLE)] + looks() + [post(1), time(0), time(361), cancel(7, 1)]))
        fresh = answers(joined([table(EXAMPLE)] + looks() + [post(1), time(0), time(361), cancel(7, 1)]))
        self.assertEqual(begun_anew[-len(fresh):], fresh)


class NothingKept(unittest.TestCase):
    def test_what_is_handed_in_stays(self):
        calls = joined(ALL)
        copy = list(calls)
        answers(calls)
        self.assertEqual(calls, copy)

    def test_not_changed_for_a_while_either(self):
        class Watched(list):
            def refuse(self, *others):
                raise AssertionError("the list was changed")

            append = extend = insert = pop = remove = clear = sort = reverse = refuse
            __setitem__ = __delitem__ = __iadd__ = __imul__ = refuse

        self.assertEqual(answers(Watched(joined(ALL))), answers(joined(ALL)))

    def test_the_same_list_twice(self):
        calls = joined(ALL)
        self.assertEqual(answers(calls), answers(calls))

    def test_nothing_from_one_time_to_the_next(self):
        fresh = answers(joined([SHOW, time(0), cancel(7, 0)]))
        answers(joined([table(EXAMPLE), cancel(7, 0), post(1), time(500)]))
        self.assertEqual(answers(joined([SHOW, time(0), cancel(7, 0)])), fresh)
        self.assertEqual(answers(joined([COUNTS, ORDER, runsof(0), booked(1)])), [5, 0, 0, 0, 0, 0, 2, 0, 0, 2, 0, 0, 1, -4])

    def test_answers_may_be_changed_by_who_has_them(self):
        calls = joined(ALL)
        first = answers(calls)
        copy = list(first)
        first.clear()
        self.assertEqual(answers(calls), copy)

    def test_nothing_is_printed(self):
        out = io.StringIO()
        with contextlib.redirect_stdout(out), contextlib.redirect_stderr(out):
            answers(joined(ALL))
        self.assertEqual(out.getvalue(), "")

    def test_nothing_is_read_or_imported(self):
        told = answers(joined(ALL))

        def refuse(*others, **named):
            raise AssertionError("the program is to read and import nothing")

        with mock.patch.multiple(builtins, __import__=refuse, open=refuse, input=refuse):
            again = answers(joined(ALL))
        self.assertEqual(again, told)


class Long(unittest.TestCase):
    def test_four_hundred_calls(self):
        self.assertEqual(answers([0] * 400), [1, 0] * 400)
        told = answers(joined([table(EXAMPLE)] + [time(t) for t in range(399)]))
        self.assertEqual(told, [2, 0, 1] + [1, 0] * 399)
        things = [table(EXAMPLE)] + [post(number) for number in range(1, 11)]
        told = answers(joined(things + [used(7, 0, 0)] * 389))
        self.assertEqual(told, [2, 0, 1] + [2, 0, 480] * 10 + [4, 5, 0, 5, 5] * 389)

    def test_a_text_of_many_lines(self):
        self.assertEqual(answers(table_of([10] * 3000)), [2, 0, 0])
        self.assertEqual(answers(table_of([10] * 2999 + [33])), [3, 1, 1, 3000])

    def test_a_line_of_many_words(self):
        self.assertEqual(answers(table_of([65, 32] * 1500)), [3, 1, 3, 1])

    def test_sixteen_thousand_numbers(self):
        self.assertEqual(answers(joined([table_of([32] * 3000)] * 5)), [2, 0, 0] * 5)


if __name__ == "__main__":
    unittest.main()
