"""Ways: the earliest, the best of n rides, the latest time to be ready."""

# There are six offices, so a way of more rides would come to one of them twice.
ROUNDS = 5


class Known:
    """What is known of an office: when one is ready there, and the rides of the way."""

    def __init__(self, ready, rides):
        self.ready = ready
        self.rides = rides


def go_round(rides, before):
    """What a round finds, by offices, that wasn't known before or is earlier."""
    found = {}
    for ride in rides:
        here = before.get(ride.origin)
        if here is not None and here.ready <= ride.take_by:
            there = found.get(ride.goal, before.get(ride.goal))
            if there is None or ride.ready < there.ready:
                found[ride.goal] = Known(ride.ready, here.rides + [ride])
    return found


def known_by_rounds(rides, origin, ready):
    """What is known, by offices, behind 0 rounds, behind 1, and so on: to 5, or to where nothing new is found."""
    known = {origin: Known(ready, [])}
    behind = [known]
    for count in range(ROUNDS):
        found = go_round(rides, known)
        # Each round starts from what the one before left: behind one that finds nothing, none finds anything.
        if len(found) == 0:
            break
        known = dict(known)
        known.update(found)
        behind.append(known)
    return behind


def earliest_way(rides, origin, ready, goal):
    """What is known of the office goal behind all rounds; None if there's no way."""
    return known_by_rounds(rides, origin, ready)[-1].get(goal)


def best_ways(rides, origin, ready, goal):
    """One behind another: each n whose best is earlier than that of n - 1, and when one is ready by it."""
    told = []
    last = None
    for count, known in enumerate(known_by_rounds(rides, origin, ready)):
        there = known.get(goal)
        if there is not None and (last is None or there.ready < last.ready):
            told.extend([count, there.ready])
        last = there
    return told


def latest_ready(rides, origin, goal, by):
    """The greatest time at which one who's ready at origin can be ready at goal by then; None if there's none."""
    latest = {goal: by}
    for count in range(ROUNDS):
        latest = go_back(rides, latest)
    return latest.get(origin)


def go_back(rides, before):
    """By offices, until when one must be ready, with one more ride ahead."""
    after = dict(before)
    for ride in rides:
        if ride.goal in before and ride.ready <= before[ride.goal]:
            if ride.origin not in after or ride.take_by > after[ride.origin]:
                after[ride.origin] = ride.take_by
    return after
