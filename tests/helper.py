"""What the tests share: calls written shortly, and answers taken apart."""

import re

from timetable.offices import answers

CLEAR = [0]
SHOW = [2]
ORDER = [14]
COUNTS = [18]

# The numbers of calls are handed in as far out as this, to both sides.
FAR = 1000000000000000000

EXAMPLE = "MIN B 10 / TRIP 7 CAP 5 5 CUT 15 / A - 0600 / B 0700 0710 / C 0800 -"

# To C one rides on from B: two rides.
NARROW = "TRIP 1 CAP 5 5 CUT 0 / A - 0600 / B 0700 - / TRIP 2 CAP 99 99 CUT 0 / B - 0800 / C 0900 -"

FOUR = "MIN B 1 / MIN C 2 / MIN D 4 / TRIP 7 CAP 5 5 CUT 15 / A - 0600 / B 0700 0710 / C 0800 0810 / D 0900 -"

# A trip, and numbers of trips and days of which it tells no run.
SOME_DAYS = "TRIP 7 D=135 V=2-9 CAP 1 1 CUT 0 / A - 0600 / B 0700 -"
NO_RUNS = (
    (8, 3), (-7, 3), (0, 3), (FAR, 3), (-FAR, 3), (7, 0), (7, 1), (7, 4), (7, 10), (7, -1), (7, 14), (7, FAR), (7, -FAR), (7, -4),
)


def text(lines):
    """The bytes of a text whose lines are parted by / here (a blank beside it is none of the text's)."""
    return [ord(sign) for sign in re.sub(" ?/ ?", "\n", lines)]


def table_of(numbers):
    return [1, len(numbers)] + numbers


def table(lines):
    return table_of(text(lines))


def cancel(trip, day):
    return [3, trip, day]


def delay(trip, day, stop, minutes):
    return [4, trip, day, stop, minutes]


def time(t):
    return [5, t]


def earliest(from_office, t, to_office):
    return [6, from_office, t, to_office]


def bests(from_office, t, to_office):
    return [7, from_office, t, to_office]


def latest(from_office, to_office, t):
    return [8, from_office, to_office, t]


def post(number, from_office=0, to_office=2, kind=0, amount=1, rank=0, t=0):
    return [9, number, from_office, to_office, kind, amount, rank, t]


def withdraw(thing):
    return [10, thing]


def booked(thing):
    return [11, thing]


def used(trip, day, stop):
    return [12, trip, day, stop]


def run(trip, day):
    return [13, trip, day]


def board(trip, day, stop):
    return [15, trip, day, stop]


def runsof(day):
    return [16, day]


def late(thing):
    return [17, thing]


def joined(calls):
    together = []
    for call in calls:
        together.extend(call)
    return together


def ask(*calls):
    """The answers to the calls, a list for each."""
    told = answers(joined(calls))
    parts = []
    at = 0
    while at < len(told):
        parts.append(told[at + 1:at + 1 + told[at]])
        at = at + 1 + told[at]
    assert at == len(told) and len(parts) == len(calls)
    return parts


def last(*calls):
    """The answer to the last of the calls."""
    return ask(*calls)[-1]


def row(*rides):
    """An answer's row of rides, six numbers each, with its length ahead."""
    return [6 * len(rides)] + joined(rides)


def shown(lines):
    """What show answers of a text, behind how many trips."""
    numbers = text(lines)
    return [len(numbers)] + numbers


def looks():
    """Calls that change nothing and tell of all that is kept: things up to 10, and trips 1, 2 and 7."""
    seen = [SHOW, COUNTS, ORDER]
    for origin in range(6):
        for goal in range(6):
            seen.append(earliest(origin, 0, goal))
            seen.append(latest(origin, goal, 30000))
    for day in range(14):
        seen.extend([runsof(day), run(7, day), run(1, day), run(2, day)])
    for day in range(3):
        for stop in range(3):
            seen.extend([used(7, day, stop), board(7, day, stop), used(1, day, stop), board(2, day, stop)])
    for thing in range(1, 11):
        seen.extend([booked(thing), late(thing)])
    return seen
