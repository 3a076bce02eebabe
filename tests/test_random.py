"""Many drawn calls, answered beside a second reading of the document that is as plain as can be, and slow."""

import itertools
import random
import unittest

from tests.helper import ask, bests, cancel, delay, earliest, latest, post, table, time


class Plain:
    """The document's words over bare dicts; the trips are handed in, not read from a text."""

    def __init__(self, minutes, trips):
        self.minutes = minutes
        self.trips = trips
        self.cancelled = []
        self.delays = []
        self.now = 0
        self.things = []

    def trip(self, number):
        return [trip for trip in self.trips if trip["number"] == number][0]

    def runs(self, number, day):
        known = [trip for trip in self.trips if trip["number"] == number]
        if not known or day not in range(14):
            return False
        fits = known[0]["days"][0] <= day <= known[0]["days"][1] and str(day % 7) in known[0]["weekdays"]
        return fits and (number, day) not in self.cancelled

    def late(self, number, day, stops):
        return sum(d[3] for d in self.delays if d[:2] == (number, day) and d[2] in stops)

    def goes(self, number, day, i):
        return day * 1440 + self.trip(number)["stops"][i][2] + self.late(number, day, range(i + 1))

    def comes(self, number, day, j):
        return day * 1440 + self.trip(number)["stops"][j][1] + self.late(number, day, range(j))

    def told(self, ride):
        number, day, i, j = ride
        return [number, day, i, j, self.goes(number, day, i), self.comes(number, day, j)]

    def ends(self, ride):
        """From where, by when one must be ready; to where, when one is ready there."""
        number, day, i, j = ride
        stops = self.trip(number)["stops"]
        there = stops[j][0]
        return (stops[i][0], self.goes(number, day, i) - self.trip(number)["cut"], there,
                self.comes(number, day, j) + self.minutes[there])

    def rides(self):
        return [(trip["number"], day, i, j) for trip in self.trips for day in range(14) if self.runs(trip["number"], day)
                for i, j in itertools.combinations(range(len(trip["stops"])), 2)]

    def rounds(self, rides, origin, t):
        known = {origin: (t, [])}
        told = [dict(known)]
        ends = [(ride, self.ends(ride)) for ride in rides]
        for n in range(5):
            before = dict(known)
            for ride, (here, by, there, ready) in ends:
                if here in before and before[here][0] <= by and (there not in known or ready < known[there][0]):
                    known[there] = (ready, before[here][1] + [ride])
            told.append(dict(known))
        return told

    def book(self):
        used = {}

        def legs(ride, thing):
            return [(ride[0], ride[1], leg, thing["kind"]) for leg in range(ride[2], ride[3])]

        def take(ride, thing):
            for leg in legs(ride, thing):
                used[leg] = used.get(leg, 0) + thing["amount"]

        for thing in self.things:
            for ride in thing["begun"]:
                take(ride, thing)
        to_go = [ride for ride in self.rides() if self.goes(*ride[:3]) >= self.now]
        booked = []
        for thing in sorted(self.things, key=lambda thing: (thing["rank"], thing["ready"], thing["number"])):
            rides = [ride for ride in to_go if all(
                used.get(leg, 0) + thing["amount"] <= self.trip(ride[0])["room"][thing["kind"]] for leg in legs(ride, thing))]
            stands = (thing["from"], thing["ready"])
            if thing["begun"]:
                stands = self.ends(thing["begun"][-1])[2:]
            way = self.rounds(rides, *stands)[5].get(thing["to"])
            for ride in way[1] if way else []:
                take(ride, thing)
            booked.append((thing, way))
        return booked

    def cancel(self, number, day):
        if not self.runs(number, day):
            return [-5]
        if self.goes(number, day, 0) < self.now:
            return [-6]
        self.cancelled.append((number, day))
        return [len(self.cancelled)]

    def delay(self, number, day, stop, minutes):
        if not self.runs(number, day):
            return [-5]
        if stop not in range(len(self.trip(number)["stops"]) - 1) or minutes not in range(1, 1001):
            return [-1]
        if self.goes(number, day, stop) < self.now:
            return [-6]
        if len(self.delays) >= 40:
            return [-3]
        self.delays.append((number, day, stop, minutes))
        return [self.goes(number, day, stop)]

    def time(self, t):
        if t < self.now:
            return [-7]
        count = 0
        for thing, way in self.book():
            for ride in way[1] if way else []:
                if self.goes(*ride[:3]) < t:
                    thing["begun"].append(ride)
                    count += 1
        self.now = t
        return [count]

    def earliest(self, origin, t, goal):
        way = self.rounds(self.rides(), origin, t)[5].get(goal)
        if way is None:
            return [-8]
        return [way[0], 6 * len(way[1])] + [number for ride in way[1] for number in self.told(ride)]

    def bests(self, origin, t, goal):
        known = [known.get(goal) for known in self.rounds(self.rides(), origin, t)]
        told = [(n, known[n][0]) for n in range(6) if known[n] and (n == 0 or not known[n - 1] or known[n][0] < known[n - 1][0])]
        return [len(told), 2 * len(told)] + [number for pair in told for number in pair]

    def latest(self, origin, goal, t):
        """Each time at which the answer could change is tried, from the greatest down."""
        rides = self.rides()
        tries = [self.ends(ride)[1] for ride in rides if self.ends(ride)[0] == origin]
        for ready in sorted(set(tries + [t]), reverse=True):
            way = self.rounds(rides, origin, ready)[5].get(goal)
            if way and way[0] <= t:
                return [0, ready]
        return [-8]

    def post(self, number, origin, goal, kind, amount, rank, t):
        if origin == goal:
            return [-1]
        if number in [thing["number"] for thing in self.things]:
            return [-4]
        if len(self.things) >= 10:
            return [-3]
        if t < self.now:
            return [-7]
        self.things.append({"number": number, "from": origin, "to": goal, "kind": kind, "amount": amount, "rank": rank,
                            "ready": t, "begun": []})
        way = self.rounds([ride for ride in self.rides() if self.goes(*ride[:3]) >= self.now], origin, t)[5].get(goal)
        return [0, way[0] if way else -1]


def some_trip(chance, number):
    offices = chance.sample(range(6), chance.choice([2, 2, 3, 3, 4, 5]))
    # Few unlike times, so that many ways are equally early.
    times = [30 * half for half in sorted(chance.sample(range(60), 2 * len(offices)))]
    stops = [(office, times[2 * k], times[2 * k + 1]) for k, office in enumerate(offices)]
    first = chance.choice([0, 0, 0, 2])
    return {"number": number, "weekdays": "".join(sorted(chance.sample("0123456", chance.choice([3, 7, 7])))),
            "days": (first, chance.choice([3, 6, 13])), "room": (chance.randint(0, 9), chance.randint(3, 9)),
            "cut": chance.choice([0, 0, 15, 30, 300]), "stops": stops}


def lines_of(minutes, trips):
    lines = [f"MIN {'ABCDEF'[office]} {minutes[office]}" for office in range(6)]
    for trip in trips:
        lines.append("TRIP {number} D={weekdays} V={days[0]}-{days[1]} CAP {room[0]} {room[1]} CUT {cut}".format(**trip))
        for k, (office, comes, goes) in enumerate(trip["stops"]):
            last = k == len(trip["stops"]) - 1
            lines.append(f"{'ABCDEF'[office]} {clock(comes) if k else '-'} {'-' if last else clock(goes)}")
    return " / ".join(lines)


def clock(minute):
    return f"{minute // 60:02d}{minute % 60:02d}"


def some_call(chance, trips, now):
    """A call's name and numbers; times rise slowly from the present one."""
    number = chance.choice(trips)["number"]
    offices = (chance.randint(0, 5), chance.randint(0, 5))
    name = chance.choice(["cancel", "delay", "time", "earliest", "bests", "latest", "post", "post", "time"])
    return name, {
        "cancel": (number, chance.randint(0, 8)),
        "delay": (number, chance.randint(0, 8), chance.randint(0, 4), chance.choice([1, 30, 60, 500])),
        "time": (now + chance.choice([-1, 0, 300, 900, 900, 1500]),),
        "earliest": (offices[0], chance.randint(0, 9000), offices[1]),
        "bests": (offices[0], chance.randint(0, 3000), offices[1]),
        "latest": (offices[0], offices[1], chance.randint(0, 12000)),
        "post": (chance.randint(1, 14), offices[0], offices[1], chance.randint(0, 1), chance.randint(1, 7), chance.randint(0, 2),
                 now + chance.choice([-30, 0, 30, 600])),
    }[name]


WRITTEN = {"cancel": cancel, "delay": delay, "time": time, "earliest": earliest, "bests": bests, "latest": latest, "post": post}


class Drawn(unittest.TestCase):
    def test_drawn_calls(self):
        for seed in range(60):
            chance = random.Random(seed)
            minutes = [chance.choice([0, 0, 10, 30]) for office in range(6)]
            trips = [some_trip(chance, number) for number in chance.sample(range(10000), chance.choice([2, 5, 6]))]
            plain = Plain(minutes, trips)
            calls = [table(lines_of(minutes, trips))]
            told = [[0, len(trips)]]
            while len(calls) < 40:
                name, numbers = some_call(chance, trips, plain.now)
                if name != "time" or numbers[0] >= 0:
                    if name != "post" or numbers[6] >= 0:
                        calls.append(WRITTEN[name](*numbers))
                        told.append(getattr(plain, name)(*numbers))
            self.assertEqual(ask(*calls), told, f"seed {seed}")


if __name__ == "__main__":
    unittest.main()
