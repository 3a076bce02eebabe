"""table: a timetable's text, and what's wrong with it."""

import unittest

from tests.helper import EXAMPLE, SHOW, ask, last, looks, post, shown, table, table_of, text, time

TWO_STOPS = "A - 0600 / B 0700 -"
TRIP = "TRIP 1 CAP 1 1 CUT 0"


def trips(count):
    return " / ".join([f"TRIP {number} CAP 1 1 CUT 0 / {TWO_STOPS}" for number in range(count)])


class TableCase(unittest.TestCase):
    def accepts(self, lines, count, as_shown=None):
        answers = ask(table(lines), SHOW)
        self.assertEqual(answers[0], [0, count], lines)
        if as_shown is not None:
            self.assertEqual(answers[1], [count] + shown(as_shown), lines)

    def refuses(self, lines, fault, line):
        self.assertEqual(last(table(lines)), [1, fault, line], lines)


class Accepted(TableCase):
    def test_each_kind_of_line(self):
        self.accepts(EXAMPLE, 1, EXAMPLE)
        self.accepts("TRIP 12 D=05 V=3-9 CAP 7 8 CUT 9 / " + TWO_STOPS, 1, "TRIP 12 D=05 V=3-9 CAP 7 8 CUT 9 / " + TWO_STOPS)

    def test_empty_text(self):
        self.assertEqual(ask(table_of([]), SHOW), [[0, 0], [0, 0]])

    def test_empty_text_takes_the_timetable_away(self):
        self.assertEqual(ask(table(EXAMPLE), table_of([]), SHOW)[1:], [[0, 0], [0, 0]])

    def test_only_minutes(self):
        self.accepts("MIN C 4", 0, "MIN C 4")

    def test_new_table_forgets_the_minutes_before(self):
        self.assertEqual(ask(table("MIN C 4"), table("MIN A 3"), SHOW)[2], [0] + shown("MIN A 3"))

    def test_remarks_and_empty_lines(self):
        lines = "# hello / #TRIP / / MIN B 10 /   / # \x00\xff / TRIP 7 CAP 5 5 CUT 15 /  #x / A - 0600 / / B 0700 0710 / C 0800 - / #"
        self.accepts(lines, 1, EXAMPLE)

    def test_several_blanks(self):
        self.accepts("  MIN   B  10  /  TRIP  7   CAP 5  5 CUT   15 /   A   - 0600  / B  0700 0710 / C 0800  - ", 1, EXAMPLE)

    def test_zeros_in_front(self):
        lines = "MIN B 010 / TRIP 0007 V=00-09 CAP 005 05 CUT 015 / " + TWO_STOPS
        self.accepts(lines, 1, "MIN B 10 / TRIP 7 V=0-9 CAP 5 5 CUT 15 / " + TWO_STOPS)

    def test_ends_with_a_byte_10(self):
        self.assertEqual(last(table_of(text(EXAMPLE) + [10])), [0, 1])
        self.assertEqual(last(table_of([10])), [0, 0])

    def test_greatest_and_least_numbers(self):
        lines = "MIN A 999 / MIN F 000 / TRIP 9999 V=13-13 CAP 999 0 CUT 999 / A - 0000 / F 4759 -"
        self.accepts(lines, 1, "MIN A 999 / TRIP 9999 V=13-13 CAP 999 0 CUT 999 / A - 0000 / F 4759 -")
        self.accepts("TRIP 0 CAP 0 999 CUT 0 / " + TWO_STOPS, 1, "TRIP 0 CAP 0 999 CUT 0 / " + TWO_STOPS)

    def test_all_offices_have_minutes(self):
        lines = "MIN F 6 / MIN E 5 / MIN D 4 / MIN C 3 / MIN B 2 / MIN A 1"
        self.accepts(lines, 0, "MIN A 1 / MIN B 2 / MIN C 3 / MIN D 4 / MIN E 5 / MIN F 6")

    def test_six_trips(self):
        self.accepts(trips(6), 6, trips(6))

    def test_two_and_five_stops(self):
        self.accepts(TRIP + " / " + TWO_STOPS, 1)
        five = TRIP + " / F - 0100 / E 0101 0101 / D 0102 0103 / C 0104 2400 / B 2401 -"
        self.accepts(five, 1, five)

    def test_goes_when_it_comes(self):
        self.accepts(TRIP + " / A - 0600 / B 0601 0601 / C 0602 -", 1)

    def test_text_of_3000_bytes(self):
        self.assertEqual(last(table_of([ord("#")] + [255] * 2999)), [0, 0])

    def test_weekdays_in_any_order(self):
        self.accepts("TRIP 1 D=6543210 CAP 1 1 CUT 0 / " + TWO_STOPS, 1, "TRIP 1 CAP 1 1 CUT 0 / " + TWO_STOPS)
        self.accepts("TRIP 1 D=520 CAP 1 1 CUT 0 / " + TWO_STOPS, 1, "TRIP 1 D=025 CAP 1 1 CUT 0 / " + TWO_STOPS)


class FirstWord(TableCase):
    def test_fault_1(self):
        for word in ("X", "G", "a", "AB", "min", "trip", "MINA", "TRIPS", "trip 7", "A\t- 0600", "-", "7", "D=1", "CAP", "x#",
                     "\x00", "\xff", "A\r", "?", "TRI", "ABCDEF"):
            self.refuses(word, 1, 1)

    def test_fault_1_behind_other_lines(self):
        self.refuses("MIN A 1 / / # / what", 1, 4)
        self.refuses(TRIP + " / A - 0600 / Q 0700 -", 1, 3)


class TripLine(TableCase):
    def test_fault_2(self):
        for rest in (
            "", "1", "CAP 1 1 CUT 0", "1 CAP 1 1 CUT", "1 CAP 1 1 CUT 0 0", "1 CAP 1 CUT 0", "1 CAP 1 1 0", "1 1 1 CUT 0",
            "1 CUT 0 CAP 1 1", "1 cap 1 1 CUT 0", "1 CAP 1 1 cut 0", "x CAP 1 1 CUT 0", "-1 CAP 1 1 CUT 0", "+1 CAP 1 1 CUT 0",
            "12345 CAP 1 1 CUT 0", "00001 CAP 1 1 CUT 0", "1 CAP 1000 1 CUT 0", "1 CAP 1 1000 CUT 0", "1 CAP 1 1 CUT 1000",
            "1 CAP 0001 1 CUT 0", "1 CAP x 1 CUT 0", "1 CAP 1 - CUT 0", "1 CAP 1 1 CUT x", "1 CAP -1 1 CUT 0",
            "1 CAP 1 1 CUT \xb2", "\xb9 CAP 1 1 CUT 0", "1 CAP 1 1 CUT 0 # remark", "1 D=0 D=1 CAP 1 1 CUT 0",
            "D=0 1 CAP 1 1 CUT 0", "1 CAP 1 1 CUT 0 D=0", "1 # CAP 1 1 CUT 0", "1 1 CAP 1 1 CUT 0",
        ):
            self.refuses(f"TRIP {rest}", 2, 1)

    def test_fault_2_of_weekdays(self):
        for word in ("D=", "D=7", "D=00", "D=0120", "D=01234567", "D=01234560", "D=a", "D=-1", "D=0,1", "D= 0", "d=0", "D", "D0",
                     "D=\xb2"):
            self.refuses(f"TRIP 1 {word} CAP 1 1 CUT 0", 2, 1)

    def test_fault_2_of_days(self):
        for word in ("V=", "V=-", "V=1", "V=1-", "V=-1", "V=2-1", "V=0-14", "V=14-14", "V=0-013", "V=000-1", "V=1-2-3", "V=1--2",
                     "V=a-b", "V=0-99", "v=0-1", "V=1=2", "V0-1", "V=0 -1", "V=\xb9-2"):
            self.refuses(f"TRIP 1 {word} CAP 1 1 CUT 0", 2, 1)

    def test_fault_2_weekdays_behind_days(self):
        self.refuses("TRIP 1 V=0-1 D=0 CAP 1 1 CUT 0", 2, 1)
        self.refuses("TRIP 1 V=0-1 V=0-1 CAP 1 1 CUT 0", 2, 1)


class StopLine(TableCase):
    def stop_refused(self, before, line):
        lines = " / ".join([TRIP] + before + [line])
        self.refuses(lines, 3, 2 + len(before))

    def test_fault_3_no_trip_before(self):
        self.refuses("A - 0600", 3, 1)
        self.refuses("MIN A 3 / A - 0600", 3, 2)

    def test_fault_3_trip_has_ended(self):
        self.stop_refused(["A - 0600", "B 0700 -"], "C 0800 -")
        self.stop_refused(["A - 0600", "B 0700 -"], "C - 0800")

    def test_fault_3_words(self):
        for line in ("A", "A -", "A 0600", "A - 0600 -", "A - 0600 0700", "A - 0600 #", "A -0600", "A -- 0600"):
            self.stop_refused([], line)
        for line in ("B", "B 0700", "B 0700 0710 0720", "B 0700-", "B -"):
            self.stop_refused(["A - 0600"], line)

    def test_fault_3_first_stop(self):
        for line in ("A - -", "A 0600 -", "A 0600 0600", "A 0500 0600"):
            self.stop_refused([], line)

    def test_fault_3_further_stop_without_coming(self):
        self.stop_refused(["A - 0600"], "B - 0700")
        self.stop_refused(["A - 0600"], "B - -")

    def test_fault_3_times(self):
        for clock in ("600", "06000", "4800", "0660", "9900", "06:0", "060a", "+600", "-600", "06.0", "\xb2\xb2\xb2\xb2", "00600",
                      "0", "2399"):
            self.stop_refused([], f"A - {clock}")
            self.stop_refused(["A - 0000"], f"B {clock} -")
            self.stop_refused(["A - 0000"], f"B 0001 {clock}")

    def test_fault_3_comes_not_later(self):
        self.stop_refused(["A - 0600"], "B 0600 -")
        self.stop_refused(["A - 0600"], "B 0559 0700")
        self.stop_refused(["A - 0600", "B 0700 0710"], "C 0710 -")
        self.stop_refused(["A - 0600", "B 0700 0710"], "C 0705 -")

    def test_fault_3_goes_before_it_comes(self):
        self.stop_refused(["A - 0600"], "B 0700 0659")

    def test_fault_3_office_twice(self):
        self.stop_refused(["A - 0600"], "A 0700 -")
        self.stop_refused(["A - 0600", "B 0700 0710"], "A 0800 -")

    def test_fault_3_more_than_five_stops(self):
        five = ["A - 0100", "B 0200 0200", "C 0300 0300", "D 0400 0400", "E 0500 0500"]
        self.stop_refused(five, "F 0600 -")
        self.stop_refused(five, "F 0600 0600")


class NotEnded(TableCase):
    def test_fault_4_at_a_trip(self):
        self.refuses(f"{TRIP} / TRIP 2 CAP 1 1 CUT 0", 4, 2)
        self.refuses(f"{TRIP} / A - 0600 / TRIP 2 CAP 1 1 CUT 0", 4, 3)
        self.refuses(f"{TRIP} / A - 0600 / B 0700 0710 / # / TRIP 2 CAP 1 1 CUT 0", 4, 5)

    def test_fault_4_at_the_end(self):
        self.refuses(TRIP, 4, 2)
        self.refuses(f"{TRIP} / A - 0600", 4, 3)
        self.refuses(f"{TRIP} / A - 0600 / B 0700 0710", 4, 4)
        self.refuses(f"{TRIP} / A - 0600 / # / ", 4, 5)
        self.refuses(f"{TRIP} / A - 0100 / B 0200 0200 / C 0300 0300 / D 0400 0400 / E 0500 0500", 4, 7)

    def test_fault_4_at_the_end_behind_a_byte_10(self):
        self.assertEqual(last(table_of(text(TRIP) + [10])), [1, 4, 3])
        self.assertEqual(last(table_of(text(TRIP) + [10, 10])), [1, 4, 4])


class TripTwice(TableCase):
    def test_fault_5_number_told_before(self):
        self.refuses(f"{TRIP} / {TWO_STOPS} / TRIP 1 CAP 2 2 CUT 2 / {TWO_STOPS}", 5, 4)
        self.refuses(f"{TRIP} / {TWO_STOPS} / TRIP 0001 CAP 2 2 CUT 2 / {TWO_STOPS}", 5, 4)

    def test_fault_5_six_trips(self):
        self.refuses(trips(7), 5, 19)
        self.refuses(trips(6) + " / TRIP 0 CAP 1 1 CUT 0", 5, 19)


class MinutesLine(TableCase):
    def test_fault_6_not_as_told(self):
        for line in ("MIN", "MIN A", "MIN 3", "MIN A 3 3", "MIN G 3", "MIN a 3", "MIN AB 3", "MIN A x", "MIN A -3", "MIN A 1000",
                     "MIN A 0003", "MIN A 3 #", "MIN 3 A", "MIN A \xb2", "MIN A -", "MIN MIN 3"):
            self.refuses(line, 6, 1)

    def test_fault_6_office_twice(self):
        self.refuses("MIN A 3 / MIN B 3 / MIN A 3", 6, 3)
        self.refuses("MIN A 0 / MIN A 3", 6, 2)

    def test_fault_6_behind_a_trip(self):
        self.refuses(f"{TRIP} / {TWO_STOPS} / MIN A 3", 6, 4)
        self.refuses(f"{TRIP} / MIN A 3", 6, 2)
        self.refuses(f"{TRIP} / A - 0600 / MIN A 3 / B 0700 -", 6, 3)


class WhichFault(TableCase):
    def test_4_before_2_before_5(self):
        ended = f"{TRIP} / {TWO_STOPS}"
        self.refuses(f"{TRIP} / TRIP", 4, 2)
        self.refuses(f"{TRIP} / TRIP 1 CAP 1 1 CUT 0", 4, 2)
        self.refuses(f"{TRIP} / TRIP 1 CAP 1 1 CUT", 4, 2)
        self.refuses(f"{ended} / TRIP 1 CAP 1 1 CUT", 2, 4)
        self.refuses(trips(6) + " / TRIP 9 CAP", 2, 19)
        self.refuses(trips(6) + " / A", 3, 19)

    def test_first_line_with_a_fault(self):
        self.refuses("MIN A 3 / what / MIN A 3", 1, 2)
        self.refuses("MIN A / what", 6, 1)
        self.refuses(f"{TRIP} / A - 0600 / A 0700 - / TRIP", 3, 3)
        self.refuses(f"{TRIP} / A - 0600 / what", 1, 3)
        self.refuses("TRIP / A", 2, 1)


class Refused(unittest.TestCase):
    def test_no_byte(self):
        for number in (-1, 256, -1000000000000000000, 1000000000000000000):
            self.assertEqual(last(table_of([number])), [-2])
            self.assertEqual(last(table_of(text(EXAMPLE) + [10, ord("#"), number])), [-2])

    def test_more_than_3000_bytes(self):
        self.assertEqual(last(table_of([32] * 3001)), [-2])

    def test_no_byte_counts_before_a_fault(self):
        self.assertEqual(last(table_of(text("what") + [256])), [-2])

    def test_bytes_at_both_ends(self):
        self.assertEqual(last(table_of([ord("#"), 0, 255])), [0, 0])
        self.assertEqual(last(table_of([0])), [1, 1, 1])
        self.assertEqual(last(table_of([255])), [1, 1, 1])

    def test_there_are_things(self):
        self.assertEqual(last(post(1), table(EXAMPLE)), [-10])
        self.assertEqual(last(post(1), table("what")), [-10])
        self.assertEqual(last(post(1), table_of([])), [-10])

    def test_things_count_before_no_text(self):
        self.assertEqual(last(post(1), table_of([256])), [-10])

    def test_nothing_changes(self):
        before = [table(EXAMPLE), [4, 7, 0, 0, 5], [3, 7, 1], time(3)]
        plain = ask(*before, *looks())[len(before):]
        for wrong in (table("MIN A 5 / what"), table("MIN A 5 / TRIP 1 CAP 1 1 CUT 0"), table_of([256]), table_of(text("MIN C 5") + [-1])):
            self.assertEqual(ask(*before, wrong, *looks())[len(before) + 1:], plain)
        posted = before + [post(1, t=3)]
        plain = ask(*posted, *looks())[len(posted):]
        for wrong in (table("MIN A 5"), table("what"), table_of([256])):
            self.assertEqual(ask(*posted, wrong, *looks())[len(posted) + 1:], plain)


class Taken(unittest.TestCase):
    def test_nothing_is_cancelled_or_late(self):
        fresh = ask(table(EXAMPLE), *looks())[1:]
        calls = [table(EXAMPLE), [4, 7, 0, 0, 5], [3, 7, 1], table(EXAMPLE)]
        self.assertEqual(ask(*calls, *looks())[4:], fresh)
        self.assertEqual(last(*calls, [3, 7, 2]), [1])

    def test_forty_delays_may_be_told_anew(self):
        calls = [table(EXAMPLE)] + [[4, 7, 0, 0, 1]] * 40 + [table(EXAMPLE), [4, 7, 0, 0, 1]]
        self.assertEqual(last(*calls), [361])

    def test_the_present_time_stays(self):
        self.assertEqual(last(table(EXAMPLE), time(500), table(EXAMPLE), time(499)), [-7])


if __name__ == "__main__":
    unittest.main()
