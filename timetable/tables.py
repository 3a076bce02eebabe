"""What a timetable is made of."""

LETTERS = ("A", "B", "C", "D", "E", "F")
LAST_DAY = 13
ALL_WEEKDAYS = (0, 1, 2, 3, 4, 5, 6)


class Stop:
    """A stop of a trip, its times in minutes from the day's beginning.

    At a first stop comes is as goes, at a last stop goes is as comes:
    so each stop has two numbers, and a stop's place tells which one is no more than a copy.
    """

    def __init__(self, office, comes, goes):
        self.office = office
        self.comes = comes
        self.goes = goes


class Trip:
    """A trip: weekdays is a rising list, days its first and last day, rooms that of letters and of parcels."""

    def __init__(self, number, weekdays, days, rooms, cut):
        self.number = number
        self.weekdays = weekdays
        self.first_day = days[0]
        self.last_day = days[1]
        self.rooms = rooms
        self.cut = cut
        self.stops = []


class Table:
    """A timetable: the minutes of each office, and the trips in order."""

    def __init__(self):
        self.minutes = [0 for letter in LETTERS]
        self.trips = []
