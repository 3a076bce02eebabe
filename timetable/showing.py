"""A timetable, shown as a text."""

from timetable.tables import ALL_WEEKDAYS, LAST_DAY, LETTERS


def show_table(table):
    """The bytes of the timetable shown."""
    lines = minutes_lines(table)
    for trip in table.trips:
        lines.append(trip_line(trip))
        lines.extend(stop_lines(trip))
    return [ord(sign) for sign in "\n".join(lines)]


def minutes_lines(table):
    lines = []
    for office, minutes in enumerate(table.minutes):
        if minutes != 0:
            letter = LETTERS[office]
            lines.append(f"MIN {letter} {minutes}")
    return lines


def trip_line(trip):
    words = ["TRIP", str(trip.number)]
    if trip.weekdays != list(ALL_WEEKDAYS):
        digits = "".join([str(day) for day in trip.weekdays])
        words.append(f"D={digits}")
    if trip.first_day != 0 or trip.last_day != LAST_DAY:
        first = trip.first_day
        last = trip.last_day
        words.append(f"V={first}-{last}")
    words.extend(["CAP", str(trip.rooms[0]), str(trip.rooms[1]), "CUT", str(trip.cut)])
    return " ".join(words)


def stop_lines(trip):
    lines = []
    last = len(trip.stops) - 1
    for place, stop in enumerate(trip.stops):
        letter = LETTERS[stop.office]
        comes = "-" if place == 0 else clock_text(stop.comes)
        goes = "-" if place == last else clock_text(stop.goes)
        lines.append(f"{letter} {comes} {goes}")
    return lines


def clock_text(minutes):
    return str(minutes // 60).zfill(2) + str(minutes % 60).zfill(2)
