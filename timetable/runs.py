"""Runs and rides, with when they go and come."""

from timetable.tables import LAST_DAY

DAY_MINUTES = 1440


def run_key(trip, day):
    """What a run is kept by, from call to call: its times change with every delay."""
    return (trip.number, day)


class Run:
    """A trip on a day: when it comes to each stop and goes from it; delays has the minutes told of each stop."""

    def __init__(self, trip, day, delays):
        self.trip = trip
        self.day = day
        self.key = run_key(trip, day)
        self.comes = []
        self.goes = []
        late = 0
        for place, stop in enumerate(trip.stops):
            self.comes.append(day * DAY_MINUTES + stop.comes + late)
            late = late + delays[place]
            self.goes.append(day * DAY_MINUTES + stop.goes + late)


class Ride:
    """A run from a stop to a later one.

    One takes it who is ready at the office origin by take_by, and is ready at the office goal then.
    """

    def __init__(self, run, first, later, minutes):
        self.run = run
        self.first = first
        self.later = later
        self.origin = run.trip.stops[first].office
        self.goal = run.trip.stops[later].office
        self.goes = run.goes[first]
        self.comes = run.comes[later]
        self.take_by = self.goes - run.trip.cut
        self.ready = self.comes + minutes[self.goal]


def does_run(state, trip, day):
    """Whether there is a run of the trip on a day from 0 to 13."""
    if day < trip.first_day or day > trip.last_day or day % 7 not in trip.weekdays:
        return False
    return run_key(trip, day) not in state.cancelled


def run_of(state, trip, day):
    no_delays = [0 for stop in trip.stops]
    return Run(trip, day, state.delays.get(run_key(trip, day), no_delays))


def find_run(state, number, day):
    """The run of the trip with this number on this day; None if there's no such run."""
    for trip in state.table.trips:
        if trip.number == number and does_run(state, trip, day):
            return run_of(state, trip, day)
    return None


def all_rides(state):
    """All rides in their order."""
    found = []
    for trip in state.table.trips:
        for day in range(LAST_DAY + 1):
            if does_run(state, trip, day):
                found.extend(rides_of(run_of(state, trip, day), state.table.minutes))
    return found


def rides_of(run, minutes):
    found = []
    for first in range(len(run.trip.stops)):
        for later in range(first + 1, len(run.trip.stops)):
            found.append(Ride(run, first, later, minutes))
    return found


def rides_to_go(state):
    """The rides that haven't gone, in their order."""
    return [ride for ride in all_rides(state) if ride.goes >= state.now]


def tell_rides(rides):
    """The six numbers of each ride, one behind another."""
    told = []
    for ride in rides:
        told.extend([ride.run.trip.number, ride.run.day, ride.first, ride.later, ride.goes, ride.comes])
    return told
