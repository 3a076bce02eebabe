"""The calls: each takes the state and the call's numbers, and answers numbers.

A refusal is one number below 0. Each call looks at its refusals in the order in which they are told,
and changes the state only behind the last of them.
"""

from timetable.booking import begin_rides, begun_rides, book_all, rides_by_things, things_in_order
from timetable.reading import NO_FAULT, is_text, read_table
from timetable.runs import all_rides, does_run, find_run, rides_to_go, tell_rides
from timetable.showing import show_table
from timetable.state import NO_PROMISE, Thing
from timetable.tables import LAST_DAY
from timetable.ways import best_ways, earliest_way, latest_ready

OUT_OF_RANGE = -1
NO_TEXT = -2
TOO_MANY = -3
NUMBER_TAKEN = -4
NO_THING = -4
NO_RUN = -5
HAS_GONE = -6
TIME_BEFORE = -7
NO_WAY = -8
NO_LATENESS = -8
HAS_BEGUN = -9
HAS_THINGS = -10

TIME_MOST = 100000
DELAYS_MOST = 40
THINGS_MOST = 10


def is_office(number):
    return 0 <= number <= 5


def is_time(number):
    return 0 <= number <= TIME_MOST


def goes_from(run, stop):
    """Whether this is a stop from which the run goes on to another: any but the last."""
    return 0 <= stop < len(run.trip.stops) - 1


def find_thing(state, number):
    """The thing with this number; None if there's none."""
    for thing in state.things:
        if thing.number == number:
            return thing
    return None


def with_row(numbers, row):
    """An answer of some numbers and a row, which has its length ahead."""
    return numbers + [len(row)] + row


def call_clear(state, numbers):
    state.begin_anew()
    return [0]


def call_table(state, text):
    if len(state.things) > 0:
        return [HAS_THINGS]
    if not is_text(text):
        return [NO_TEXT]
    reading = read_table(text)
    if reading.fault != NO_FAULT:
        return [1, reading.fault, reading.line]
    state.take_table(reading.table)
    return [0, len(reading.table.trips)]


def call_show(state, numbers):
    return with_row([len(state.table.trips)], show_table(state.table))


def call_cancel(state, numbers):
    run = find_run(state, numbers[0], numbers[1])
    if run is None:
        return [NO_RUN]
    if run.goes[0] < state.now:
        return [HAS_GONE]
    state.cancelled[run.key] = True
    return [len(state.cancelled)]


def call_delay(state, numbers):
    stop = numbers[2]
    minutes = numbers[3]
    run = find_run(state, numbers[0], numbers[1])
    if run is None:
        return [NO_RUN]
    if not (goes_from(run, stop) and 1 <= minutes <= 1000):
        return [OUT_OF_RANGE]
    if run.goes[stop] < state.now:
        return [HAS_GONE]
    if state.delays_told == DELAYS_MOST:
        return [TOO_MANY]
    add_delay(state, run, stop, minutes)
    return [run.goes[stop] + minutes]


def add_delay(state, run, stop, minutes):
    if run.key not in state.delays:
        state.delays[run.key] = [0 for each in run.trip.stops]
    told = state.delays[run.key]
    told[stop] = told[stop] + minutes
    state.delays_told = state.delays_told + 1


def call_time(state, numbers):
    present = numbers[0]
    if not is_time(present):
        return [OUT_OF_RANGE]
    if present < state.now:
        return [TIME_BEFORE]
    # Rides are booked at the time that was present until now: at the new one they would have gone.
    count = begin_rides(state, present)
    state.now = present
    return [count]


def call_earliest(state, numbers):
    if not (is_office(numbers[0]) and is_time(numbers[1]) and is_office(numbers[2])):
        return [OUT_OF_RANGE]
    way = earliest_way(all_rides(state), numbers[0], numbers[1], numbers[2])
    if way is None:
        return [NO_WAY]
    return with_row([way.ready], tell_rides(way.rides))


def call_bests(state, numbers):
    if not (is_office(numbers[0]) and is_time(numbers[1]) and is_office(numbers[2])):
        return [OUT_OF_RANGE]
    row = best_ways(all_rides(state), numbers[0], numbers[1], numbers[2])
    return with_row([len(row) // 2], row)


def call_latest(state, numbers):
    if not (is_office(numbers[0]) and is_office(numbers[1]) and is_time(numbers[2])):
        return [OUT_OF_RANGE]
    ready = latest_ready(all_rides(state), numbers[0], numbers[1], numbers[2])
    if ready is None:
        return [NO_WAY]
    return [0, ready]


def call_post(state, numbers):
    if not is_thing(numbers):
        return [OUT_OF_RANGE]
    thing = Thing(numbers[0], numbers[1], numbers[2], numbers[3], numbers[4], numbers[5], numbers[6])
    if find_thing(state, thing.number) is not None:
        return [NUMBER_TAKEN]
    if len(state.things) == THINGS_MOST:
        return [TOO_MANY]
    if thing.ready < state.now:
        return [TIME_BEFORE]
    way = earliest_way(rides_to_go(state), thing.origin, thing.ready, thing.goal)
    if way is not None:
        thing.promise = way.ready
    state.things.append(thing)
    return [0, thing.promise]


def is_thing(numbers):
    """Whether all numbers of post are in their ranges."""
    if not (is_office(numbers[1]) and is_office(numbers[2])) or numbers[1] == numbers[2]:
        return False
    if not (1 <= numbers[0] <= 9999 and 0 <= numbers[3] <= 1 and 1 <= numbers[4] <= 999):
        return False
    return 0 <= numbers[5] <= 9 and is_time(numbers[6])


def call_withdraw(state, numbers):
    thing = find_thing(state, numbers[0])
    if thing is None:
        return [NO_THING]
    if len(thing.begun) > 0:
        return [HAS_BEGUN]
    state.things = [other for other in state.things if other.number != thing.number]
    return [len(state.things)]


def call_booked(state, numbers):
    thing = find_thing(state, numbers[0])
    if thing is None:
        return [NO_THING]
    begun = begun_rides(state, thing)
    way = book_all(state)[thing.number]
    if way is None:
        return with_row([1, len(begun)], tell_rides(begun))
    return with_row([0, len(begun), way.ready], tell_rides(begun + way.rides))


def call_used(state, numbers):
    stop = numbers[2]
    run = find_run(state, numbers[0], numbers[1])
    if run is None:
        return [NO_RUN]
    if not goes_from(run, stop):
        return [OUT_OF_RANGE]
    amounts = [0, 0]
    for thing, rides in rides_by_things(state):
        for ride in rides:
            if ride.run.key == run.key and ride.first <= stop < ride.later:
                amounts[thing.kind] = amounts[thing.kind] + thing.amount
    return amounts + run.trip.rooms


def call_run(state, numbers):
    run = find_run(state, numbers[0], numbers[1])
    if run is None:
        return [NO_RUN]
    row = []
    for place, stop in enumerate(run.trip.stops):
        row.extend([stop.office, run.comes[place], run.goes[place]])
    return with_row([len(run.trip.stops)], row)


def call_order(state, numbers):
    return with_row([len(state.things)], [thing.number for thing in things_in_order(state)])


def call_board(state, numbers):
    stop = numbers[2]
    run = find_run(state, numbers[0], numbers[1])
    if run is None:
        return [NO_RUN]
    if not goes_from(run, stop):
        return [OUT_OF_RANGE]
    row = []
    for thing, rides in rides_by_things(state):
        if any([ride.run.key == run.key and ride.first == stop for ride in rides]):
            row.append(thing.number)
    return with_row([len(row)], row)


def call_runsof(state, numbers):
    day = numbers[0]
    if not 0 <= day <= LAST_DAY:
        return [OUT_OF_RANGE]
    return with_row([0], [trip.number for trip in state.table.trips if does_run(state, trip, day)])


def call_late(state, numbers):
    thing = find_thing(state, numbers[0])
    if thing is None:
        return [NO_THING]
    way = book_all(state)[thing.number]
    if thing.promise == NO_PROMISE or way is None:
        return [NO_LATENESS]
    return [0, way.ready - thing.promise]


def call_counts(state, numbers):
    return [state.now, len(state.table.trips), len(state.cancelled), state.delays_told, len(state.things)]


CALLS = {
    0: call_clear,
    1: call_table,
    2: call_show,
    3: call_cancel,
    4: call_delay,
    5: call_time,
    6: call_earliest,
    7: call_bests,
    8: call_latest,
    9: call_post,
    10: call_withdraw,
    11: call_booked,
    12: call_used,
    13: call_run,
    14: call_order,
    15: call_board,
    16: call_runsof,
    17: call_late,
    18: call_counts,
}


def answer_call(state, call, numbers):
    answer = CALLS[call]
    return answer(state, numbers)
