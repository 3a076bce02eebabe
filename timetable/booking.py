"""Things in their order, and the rides that are booked for them."""

from timetable.runs import Ride, find_run, rides_to_go
from timetable.ways import earliest_way


def things_in_order(state):
    return sorted(state.things, key=lambda thing: (thing.rank, thing.ready, thing.number))


def begun_rides(state, thing):
    found = []
    for told in thing.begun:
        run = find_run(state, told[0][0], told[0][1])
        found.append(Ride(run, told[1], told[2], state.table.minutes))
    return found


def book_all(state):
    """By things' numbers what is known of their goal by the booked rides; None for one that's not booked."""
    taken = [{}, {}]
    for thing in state.things:
        for ride in begun_rides(state, thing):
            take_ride(taken, thing, ride)
    to_go = rides_to_go(state)
    booked = {}
    for thing in things_in_order(state):
        rides = [ride for ride in to_go if has_room(taken, thing, ride)]
        way = way_onward(state, thing, rides)
        if way is not None:
            for ride in way.rides:
                take_ride(taken, thing, ride)
        booked[thing.number] = way
    return booked


def rides_by_things(state):
    """Each thing, in their order, with its rides, begun and booked."""
    booked = book_all(state)
    found = []
    for thing in things_in_order(state):
        rides = begun_rides(state, thing)
        way = booked[thing.number]
        if way is not None:
            rides = rides + way.rides
        found.append((thing, rides))
    return found


def way_onward(state, thing, rides):
    """The earliest from where the thing stands to its goal; None if there's no way."""
    if len(thing.begun) == 0:
        return earliest_way(rides, thing.origin, thing.ready, thing.goal)
    last = begun_rides(state, thing)[-1]
    return earliest_way(rides, last.goal, last.ready, thing.goal)


def take_ride(taken, thing, ride):
    """Adds the thing's amount to what is taken: by kinds, by runs, of each stop the amount on to the next."""
    of_kind = taken[thing.kind]
    amounts = of_kind.get(ride.run.key)
    if amounts is None:
        amounts = [0 for stop in ride.run.trip.stops]
        of_kind[ride.run.key] = amounts
    for stop in range(ride.first, ride.later):
        amounts[stop] = amounts[stop] + thing.amount


def has_room(taken, thing, ride):
    room = ride.run.trip.rooms[thing.kind]
    amounts = taken[thing.kind].get(ride.run.key)
    if amounts is None:
        return thing.amount <= room
    return max(amounts[ride.first:ride.later]) + thing.amount <= room


def begin_rides(state, until):
    """Books everything, and begins the booked rides that go before until; answers how many these are."""
    booked = book_all(state)
    count = 0
    for thing in state.things:
        way = booked[thing.number]
        if way is not None:
            for ride in way.rides:
                if ride.goes < until:
                    thing.begun.append((ride.run.key, ride.first, ride.later))
                    count = count + 1
    return count
