"""What the tests share: calls written shortly, and answers taken apart."""

import re

from timetable.offices import answers

CLEAR = [0]
SHOW = [2]

EXAMPLE = "MIN B 10 / TRIP 7 CAP 5 5 CUT 15 / A - 0600 / B 0700 0710 / C 0800 -"


def text(lines):
    """The bytes of a text whose lines are parted by / here (a blank beside it is none of the text's)."""
    return [ord(sign) for sign in re.sub(" ?/ ?", "\n", lines)]


def table_of(numbers):
    return [1, len(numbers)] + numbers


def table(lines):
    return table_of(text(lines))


def cancel(trip, day):
    return [3, trip, day]


def delay(trip, day, stop, minutes):
    return [4, trip, day, stop, minutes]


def time(t):
    return [5, t]


def earliest(from_office, t, to_office):
    return [6, from_office, t, to_office]


def bests(from_office, t, to_office):
    return [7, from_office, t, to_office]


def latest(from_office, to_office, t):
    return [8, from_office, to_office, t]


def post(number, from_office=0, to_office=2, kind=0, amount=1, rank=0, t=0):
    return [9, number, from_office, to_office, kind, amount, rank, t]


def joined(calls):
    together = []
    for call in calls:
        together.extend(call)
    return together


def ask(*calls):
    """The answers to the calls, a list for each."""
    told = answers(joined(calls))
    parts = []
    at = 0
    while at < len(told):
        parts.append(told[at + 1:at + 1 + told[at]])
        at = at + 1 + told[at]
    assert at == len(told) and len(parts) == len(calls)
    return parts


def last(*calls):
    """The answer to the last of the calls."""
    return ask(*calls)[-1]


def row(*rides):
    """An answer's row of rides, six numbers each, with its length ahead."""
    return [6 * len(rides)] + joined(rides)


def shown(lines):
    """What show answers of a text, behind how many trips."""
    numbers = text(lines)
    return [len(numbers)] + numbers


# How the state looks from outside: what of it the calls 0 to 9 can tell.
def looks():
    seen = [SHOW]
    for origin in range(6):
        for goal in range(6):
            seen.append(earliest(origin, 0, goal))
            seen.append(latest(origin, goal, 30000))
    return seen
