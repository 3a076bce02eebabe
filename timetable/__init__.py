"""Trips by a timetable: see timetable.offices."""
