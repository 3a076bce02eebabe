"""show: a timetable shown."""

import random
import unittest

from tests.helper import CLEAR, EXAMPLE, SHOW, ask, last, shown, table, table_of

STOPS = "A - 0600 / B 0700 -"


class Show(unittest.TestCase):
    def check(self, lines, count, as_shown):
        first = last(table(lines), SHOW)
        self.assertEqual(first, [count] + shown(as_shown))
        self.assertEqual(last(table_of(first[2:]), SHOW), first)

    def test_at_the_beginning(self):
        self.assertEqual(last(SHOW), [0, 0])
        self.assertEqual(last(table(EXAMPLE), CLEAR, SHOW), [0, 0])

    def test_minutes_of_0_are_left_out(self):
        self.check("MIN A 0 / MIN C 000 / MIN B 3", 0, "MIN B 3")

    def test_minutes_by_offices(self):
        self.check("MIN F 1 / MIN A 20 / MIN C 300", 0, "MIN A 20 / MIN C 300 / MIN F 1")

    def test_all_weekdays_are_left_out(self):
        self.check("TRIP 1 D=3216540 CAP 1 2 CUT 3 / " + STOPS, 1, "TRIP 1 CAP 1 2 CUT 3 / " + STOPS)

    def test_digits_rise(self):
        self.check("TRIP 1 D=6130 CAP 1 2 CUT 3 / " + STOPS, 1, "TRIP 1 D=0136 CAP 1 2 CUT 3 / " + STOPS)

    def test_all_days_are_left_out(self):
        self.check("TRIP 1 V=00-13 CAP 1 2 CUT 3 / " + STOPS, 1, "TRIP 1 CAP 1 2 CUT 3 / " + STOPS)
        self.check("TRIP 1 V=0-13 CAP 1 2 CUT 3 / " + STOPS, 1, "TRIP 1 CAP 1 2 CUT 3 / " + STOPS)

    def test_other_days_are_shown(self):
        for word in ("V=0-12", "V=1-13", "V=0-0", "V=13-13", "V=4-11"):
            self.check(f"TRIP 1 {word} CAP 1 2 CUT 3 / {STOPS}", 1, f"TRIP 1 {word} CAP 1 2 CUT 3 / {STOPS}")

    def test_numbers_without_zeros_before(self):
        self.check("MIN D 007 / TRIP 0040 D=1 V=01-02 CAP 000 010 CUT 005 / " + STOPS, 1,
                   "MIN D 7 / TRIP 40 D=1 V=1-2 CAP 0 10 CUT 5 / " + STOPS)

    def test_times_have_four_digits(self):
        lines = "TRIP 0 CAP 0 0 CUT 0 / A - 0000 / B 0001 0059 / C 0100 0959 / D 1000 2400 / E 4759 -"
        self.check(lines, 1, lines)

    def test_trips_in_the_order_told(self):
        lines = f"TRIP 9 CAP 1 1 CUT 1 / {STOPS} / TRIP 2 CAP 1 1 CUT 1 / C - 0000 / A 0100 0100 / F 0200 -"
        self.check(lines, 2, lines)

    def test_remarks_and_blanks_are_not_shown(self):
        self.check("# x /  TRIP  1  CAP 1 2 CUT 3 / / A -   0600 / B 0700 - / ", 1, "TRIP 1 CAP 1 2 CUT 3 / " + STOPS)

    def test_delays_and_cancelled_runs_are_not_shown(self):
        told = ask(table(EXAMPLE), SHOW, [4, 7, 0, 0, 30], [3, 7, 1], SHOW)
        self.assertEqual(told[1], told[4])

    def test_what_is_shown_is_shown_alike(self):
        chance = random.Random(1)
        for turn in range(60):
            lines = some_lines(chance)
            answers = ask(table(lines), SHOW)
            self.assertEqual(answers[0][0], 0, lines)
            self.assertEqual(last(table_of(answers[1][2:]), SHOW), answers[1], lines)


def some_lines(chance):
    lines = [f"MIN {letter} {chance.choice(['0', '00', '7', '07', '120'])}" for letter in "ABCDEF" if chance.random() < 0.5]
    for number in chance.sample(range(10000), chance.randint(0, 6)):
        weekdays = "".join(chance.sample("0123456", chance.randint(1, 7)))
        days = sorted([chance.randint(0, 13), chance.randint(0, 13)])
        lines.append(f"TRIP {number} D={weekdays} V={days[0]}-{days[1]} CAP {chance.randint(0, 999)} 05 CUT 0{chance.randint(0, 99)}")
        letters = chance.sample("ABCDEF", chance.randint(2, 5))
        times = [clock(minute) for minute in sorted(chance.sample(range(2880), 2 * len(letters)))]
        times[0] = "-"
        times[-1] = "-"
        for place, letter in enumerate(letters):
            lines.append(f"{letter} {times[2 * place]} {times[2 * place + 1]}")
    return " / ".join(lines)


def clock(minute):
    return f"{minute // 60:02d}{minute % 60:02d}"


if __name__ == "__main__":
    unittest.main()
