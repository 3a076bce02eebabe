"""A timetable's text, read."""

from timetable.tables import ALL_WEEKDAYS, LAST_DAY, LETTERS, Stop, Table, Trip

TEXT_MOST = 3000
TRIPS_MOST = 6
STOPS_MOST = 5

# Words of a timetable hold no other signs; every other byte becomes OTHER, which no word may hold.
SIGNS = "\n #-=0123456789ABCDEFIMNPRTUV"
OTHER = "?"

NO_FAULT = 0
FIRST_WORD = 1
TRIP_LINE = 2
STOP_LINE = 3
NOT_ENDED = 4
TRIP_TWICE = 5
MIN_LINE = 6


class Draft:
    """What is read so far; has_open tells that the last trip still waits for its last stop."""

    def __init__(self):
        self.table = Table()
        self.told = []
        self.has_open = False


class Reading:
    """What came of a text: its table, or what's wrong with it and the line (from 1)."""

    def __init__(self, table, fault, line):
        self.table = table
        self.fault = fault
        self.line = line


def is_text(numbers):
    return len(numbers) <= TEXT_MOST and all([0 <= number <= 255 for number in numbers])


def read_table(text):
    draft = Draft()
    lines = signs_of(text).split("\n")
    for place, line in enumerate(lines):
        fault = read_line(draft, words_of(line))
        if fault != NO_FAULT:
            return Reading(None, fault, place + 1)
    if draft.has_open:
        return Reading(None, NOT_ENDED, len(lines) + 1)
    return Reading(draft.table, NO_FAULT, 0)


def signs_of(text):
    by_byte = dict([(ord(sign), sign) for sign in SIGNS])
    return "".join([by_byte.get(byte, OTHER) for byte in text])


def words_of(line):
    return [word for word in line.split(" ") if word != ""]


def read_line(draft, words):
    """Takes a line into the draft; answers what's wrong with it."""
    if len(words) == 0 or words[0].startswith("#"):
        return NO_FAULT
    if words[0] == "MIN":
        return read_minutes(draft, words)
    if words[0] == "TRIP":
        return read_trip(draft, words)
    if words[0] in LETTERS:
        return read_stop(draft, words)
    return FIRST_WORD


def read_minutes(draft, words):
    if len(draft.table.trips) > 0 or len(words) != 3:
        return MIN_LINE
    if words[1] not in LETTERS or words[1] in draft.told:
        return MIN_LINE
    minutes = number_of(words[2], 3)
    if minutes is None:
        return MIN_LINE
    draft.told.append(words[1])
    draft.table.minutes[LETTERS.index(words[1])] = minutes
    return NO_FAULT


def read_trip(draft, words):
    if draft.has_open:
        return NOT_ENDED
    trip = trip_of(words)
    if trip is None:
        return TRIP_LINE
    trips = draft.table.trips
    if len(trips) == TRIPS_MOST or trip.number in [other.number for other in trips]:
        return TRIP_TWICE
    trips.append(trip)
    draft.has_open = True
    return NO_FAULT


def trip_of(words):
    """The trip that a line of TRIP tells, without stops; None if the line isn't as told."""
    weekdays = list(ALL_WEEKDAYS)
    days = [0, LAST_DAY]
    at = 2
    if at < len(words) and words[at].startswith("D="):
        weekdays = weekdays_of(words[at][2:])
        at = at + 1
    if at < len(words) and words[at].startswith("V="):
        days = days_of(words[at][2:])
        at = at + 1
    rest = words[at:]
    if len(rest) != 5 or rest[0] != "CAP" or rest[3] != "CUT":
        return None
    number = number_of(words[1], 4)
    rooms = [number_of(rest[1], 3), number_of(rest[2], 3)]
    cut = number_of(rest[4], 3)
    if None in [number, weekdays, days, rooms[0], rooms[1], cut]:
        return None
    return Trip(number, weekdays, days, rooms, cut)


def weekdays_of(digits):
    """The days of the week, rising; None if they aren't 1 to 7 unlike digits 0 to 6."""
    if digits == "" or len(set(digits)) != len(digits):
        return None
    if any([digit not in "0123456" for digit in digits]):
        return None
    return sorted([int(digit) for digit in digits])


def days_of(word):
    """The first and the last day of from-to; None if these aren't days, the first not greater."""
    days = [number_of(part, 2) for part in word.split("-")]
    if len(days) != 2 or None in days:
        return None
    if days[0] > days[1] or days[1] > LAST_DAY:
        return None
    return days


def read_stop(draft, words):
    if not draft.has_open:
        return STOP_LINE
    stops = draft.table.trips[-1].stops
    stop = stop_of(stops, words)
    if stop is None:
        return STOP_LINE
    stops.append(stop)
    draft.has_open = words[2] != "-"
    return NO_FAULT


def stop_of(before, words):
    """The stop that a line tells behind the stops before; None if the line isn't as told."""
    if len(words) != 3 or len(before) == STOPS_MOST:
        return None
    office = LETTERS.index(words[0])
    if office in [stop.office for stop in before]:
        return None
    if len(before) == 0:
        return first_stop(office, words)
    return further_stop(office, words, before[-1].goes)


def first_stop(office, words):
    goes = minutes_of(words[2])
    if words[1] != "-" or goes is None:
        return None
    return Stop(office, goes, goes)


def further_stop(office, words, went):
    """The stop of a trip that went from the stop before at the minute went."""
    comes = minutes_of(words[1])
    if comes is None or comes <= went:
        return None
    if words[2] == "-":
        return Stop(office, comes, comes)
    goes = minutes_of(words[2])
    if goes is None or goes < comes:
        return None
    return Stop(office, comes, goes)


def number_of(word, most):
    """The number that a word of at most so many digits tells; None if it's no such word."""
    if len(word) > most or not word.isdigit():
        return None
    return int(word)


def minutes_of(word):
    """The minutes of a word hhmm; None if it's no such word."""
    if len(word) != 4 or not word.isdigit():
        return None
    hours = int(word[:2])
    minutes = int(word[2:])
    if hours > 47 or minutes > 59:
        return None
    return hours * 60 + minutes
