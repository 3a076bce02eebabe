"""Many drawn calls, answered beside a second reading of the document that is as plain as can be, and slow."""

import itertools
import random
import re
import unittest

from tests.helper import FAR, ask, table_of

# The calls in the order of their numbers.
NAMES = ("clear table show cancel delay time earliest bests latest post withdraw booked used run order board runsof late counts").split()

TRIP = re.compile("TRIP ([0-9]{1,4})( D=([0-6]{1,7}))?( V=([0-9]{1,2})-([0-9]{1,2}))? CAP ([0-9]{1,3}) ([0-9]{1,3}) CUT ([0-9]{1,3})")
MIN = re.compile("MIN ([A-F]) ([0-9]{1,3})")
STOP = re.compile("([A-F]) (-|[0-9]{4}) (-|[0-9]{4})")
CLOCK = re.compile("([0-3][0-9]|4[0-7])[0-5][0-9]")


class Fault(Exception):
    """What's wrong with a text: its number, and the line."""


def minute(word):
    return int(word[:2]) * 60 + int(word[2:])


def clock(minutes):
    return f"{minutes // 60:02d}{minutes % 60:02d}"


def ended(trips):
    return not trips or (len(trips[-1]["stops"]) > 1 and trips[-1]["stops"][-1][2] is None)


def read(text):
    minutes, trips = {}, []
    lines = text.split("\n")
    for place, line in enumerate(lines, 1):
        words = re.findall("[^ ]+", line)
        line = " ".join(words)
        if not words or words[0][0] == "#":
            continue
        if words[0] == "MIN":
            told = MIN.fullmatch(line)
            if not told or told[1] in minutes or trips:
                raise Fault(6, place)
            minutes[told[1]] = int(told[2])
        elif words[0] == "TRIP":
            if not ended(trips):
                raise Fault(4, place)
            trips.append(read_trip(line, place, trips))
        elif words[0] in list("ABCDEF"):
            if not trips or ended(trips) or not fits(line, trips[-1]["stops"]):
                raise Fault(3, place)
            told = STOP.fullmatch(line)
            trips[-1]["stops"].append(("ABCDEF".index(told[1]), *[None if word == "-" else minute(word) for word in told.groups()[1:]]))
        else:
            raise Fault(1, place)
    if not ended(trips):
        raise Fault(4, len(lines) + 1)
    return [minutes.get(letter, 0) for letter in "ABCDEF"], trips


def read_trip(line, place, before):
    told = TRIP.fullmatch(line)
    if not told or (told[3] and len(set(told[3])) < len(told[3])):
        raise Fault(2, place)
    days = (int(told[5] or 0), int(told[6] or 13))
    if not 0 <= days[0] <= days[1] <= 13:
        raise Fault(2, place)
    if len(before) == 6 or int(told[1]) in [trip["number"] for trip in before]:
        raise Fault(5, place)
    return {"number": int(told[1]), "weekdays": "".join(sorted(told[3] or "0123456")), "days": days, "room": (int(told[7]), int(told[8])),
            "cut": int(told[9]), "stops": []}


def fits(line, stops):
    told = STOP.fullmatch(line)
    if not told or len(stops) == 5 or "ABCDEF".index(told[1]) in [stop[0] for stop in stops]:
        return False
    if any(word != "-" and not CLOCK.fullmatch(word) for word in told.groups()[1:]):
        return False
    if not stops:
        return told[2] == "-" and told[3] != "-"
    if told[2] == "-" or minute(told[2]) <= stops[-1][2]:
        return False
    return told[3] == "-" or minute(told[2]) <= minute(told[3])


class Plain:
    """The document's words over bare dicts and lists, a method for each call."""

    def __init__(self):
        self.clear()

    def clear(self):
        self.minutes = [0] * 6
        self.trips = []
        self.cancelled = []
        self.delays = []
        self.now = 0
        self.things = []
        return [0]

    def table(self, *text):
        if self.things:
            return [-10]
        if not all(0 <= byte <= 255 for byte in text):
            return [-2]
        try:
            read_now = read(bytes(text).decode("latin-1"))
        except Fault as fault:
            return [1, *fault.args]
        self.minutes, self.trips = read_now
        self.cancelled = []
        self.delays = []
        return [0, len(self.trips)]

    def show(self):
        lines = [f"MIN {letter} {number}" for letter, number in zip("ABCDEF", self.minutes) if number]
        for trip in self.trips:
            weekdays = "" if trip["weekdays"] == "0123456" else " D=" + trip["weekdays"]
            days = "" if trip["days"] == (0, 13) else " V={}-{}".format(*trip["days"])
            lines.append("TRIP {}{}{} CAP {} {} CUT {}".format(trip["number"], weekdays, days, *trip["room"], trip["cut"]))
            for office, *times in trip["stops"]:
                lines.append(" ".join(["ABCDEF"[office]] + ["-" if told is None else clock(told) for told in times]))
        shown = "\n".join(lines).encode()
        return [len(self.trips), len(shown), *shown]

    def trip(self, number):
        return [trip for trip in self.trips if trip["number"] == number][0]

    def last_stop(self, number):
        return len(self.trip(number)["stops"]) - 1

    def runs(self, number, day):
        known = [trip for trip in self.trips if trip["number"] == number]
        if not known or day not in range(14):
            return False
        fits = known[0]["days"][0] <= day <= known[0]["days"][1] and str(day % 7) in known[0]["weekdays"]
        return fits and (number, day) not in self.cancelled

    def delayed(self, number, day, stops):
        return sum(d[3] for d in self.delays if d[:2] == (number, day) and d[2] in stops)

    def goes(self, number, day, i):
        return day * 1440 + self.trip(number)["stops"][i][2] + self.delayed(number, day, range(i + 1))

    def comes(self, number, day, j):
        return day * 1440 + self.trip(number)["stops"][j][1] + self.delayed(number, day, range(j))

    def told(self, rides):
        row = [number for ride in rides for number in (*ride, self.goes(*ride[:3]), self.comes(*ride[:2], ride[3]))]
        return [len(row)] + row

    def ends(self, ride):
        """From where, by when one must be ready; to where, when one is ready there."""
        number, day, i, j = ride
        stops = self.trip(number)["stops"]
        there = stops[j][0]
        return (stops[i][0], self.goes(number, day, i) - self.trip(number)["cut"], there,
                self.comes(number, day, j) + self.minutes[there])

    def rides(self):
        return [(trip["number"], day, i, j) for trip in self.trips for day in range(14) if self.runs(trip["number"], day)
                for i, j in itertools.combinations(range(len(trip["stops"])), 2)]

    def rides_to_go(self):
        return [ride for ride in self.rides() if self.goes(*ride[:3]) >= self.now]

    def rounds(self, rides, origin, t):
        known = {origin: (t, [])}
        told = [dict(known)]
        ends = [(ride, self.ends(ride)) for ride in rides]
        for n in range(5):
            before = dict(known)
            for ride, (here, by, there, ready) in ends:
                if here in before and before[here][0] <= by and (there not in known or ready < known[there][0]):
                    known[there] = (ready, before[here][1] + [ride])
            told.append(dict(known))
        return told

    def sorted_things(self):
        return sorted(self.things, key=lambda thing: (thing["rank"], thing["ready"], thing["number"]))

    def book(self):
        """Each thing in order, its way, and its rides begun and booked."""
        used = {}

        def legs(ride, thing):
            return [(ride[0], ride[1], leg, thing["kind"]) for leg in range(ride[2], ride[3])]

        def take(ride, thing):
            for leg in legs(ride, thing):
                used[leg] = used.get(leg, 0) + thing["amount"]

        for thing in self.things:
            for ride in thing["begun"]:
                take(ride, thing)
        to_go = self.rides_to_go()
        booked = []
        for thing in self.sorted_things():
            rides = [ride for ride in to_go if all(
                used.get(leg, 0) + thing["amount"] <= self.trip(ride[0])["room"][thing["kind"]] for leg in legs(ride, thing))]
            stands = (thing["from"], thing["ready"])
            if thing["begun"]:
                stands = self.ends(thing["begun"][-1])[2:]
            way = self.rounds(rides, *stands)[5].get(thing["to"])
            for ride in way[1] if way else []:
                take(ride, thing)
            booked.append((thing, way, thing["begun"] + (way[1] if way else [])))
        return booked

    def cancel(self, number, day):
        if not self.runs(number, day):
            return [-5]
        if self.goes(number, day, 0) < self.now:
            return [-6]
        self.cancelled.append((number, day))
        return [len(self.cancelled)]

    def delay(self, number, day, stop, minutes):
        if not self.runs(number, day):
            return [-5]
        if stop not in range(self.last_stop(number)) or minutes not in range(1, 1001):
            return [-1]
        if self.goes(number, day, stop) < self.now:
            return [-6]
        if len(self.delays) >= 40:
            return [-3]
        self.delays.append((number, day, stop, minutes))
        return [self.goes(number, day, stop)]

    def time(self, t):
        if t not in range(100001):
            return [-1]
        if t < self.now:
            return [-7]
        count = 0
        for thing, way, rides in self.book():
            for ride in way[1] if way else []:
                if self.goes(*ride[:3]) < t:
                    thing["begun"].append(ride)
                    count += 1
        self.now = t
        return [count]

    def earliest(self, origin, t, goal):
        if origin not in range(6) or t not in range(100001) or goal not in range(6):
            return [-1]
        way = self.rounds(self.rides(), origin, t)[5].get(goal)
        return [way[0]] + self.told(way[1]) if way else [-8]

    def bests(self, origin, t, goal):
        if origin not in range(6) or t not in range(100001) or goal not in range(6):
            return [-1]
        known = [known.get(goal) for known in self.rounds(self.rides(), origin, t)]
        told = [(n, known[n][0]) for n in range(6) if known[n] and (n == 0 or not known[n - 1] or known[n][0] < known[n - 1][0])]
        return [len(told), 2 * len(told)] + [number for pair in told for number in pair]

    def latest(self, origin, goal, t):
        """Each time at which the answer could change is tried, from the greatest down."""
        if origin not in range(6) or goal not in range(6) or t not in range(100001):
            return [-1]
        rides = self.rides()
        tries = [self.ends(ride)[1] for ride in rides if self.ends(ride)[0] == origin]
        for ready in sorted(set(tries + [t]), reverse=True):
            way = self.rounds(rides, origin, ready)[5].get(goal)
            if way and way[0] <= t:
                return [0, ready]
        return [-8]

    def post(self, number, origin, goal, kind, amount, rank, t):
        if number not in range(1, 10000) or origin not in range(6) or goal not in range(6) or origin == goal or kind not in range(2):
            return [-1]
        if amount not in range(1, 1000) or rank not in range(10) or t not in range(100001):
            return [-1]
        if number in [thing["number"] for thing in self.things]:
            return [-4]
        if len(self.things) >= 10:
            return [-3]
        if t < self.now:
            return [-7]
        way = self.rounds(self.rides_to_go(), origin, t)[5].get(goal)
        self.things.append({"number": number, "from": origin, "to": goal, "kind": kind, "amount": amount, "rank": rank,
                            "ready": t, "begun": [], "promise": way[0] if way else None})
        return [0, way[0] if way else -1]

    def withdraw(self, number):
        for thing in self.things:
            if thing["number"] == number:
                if thing["begun"]:
                    return [-9]
                self.things.remove(thing)
                return [len(self.things)]
        return [-4]

    def booked(self, number):
        for thing, way, rides in self.book():
            if thing["number"] == number:
                begun = len(thing["begun"])
                return ([0, begun, way[0]] if way else [1, begun]) + self.told(rides)
        return [-4]

    def used(self, number, day, stop):
        if not self.runs(number, day):
            return [-5]
        if stop not in range(self.last_stop(number)):
            return [-1]
        riding = [thing for thing, way, rides in self.book() for ride in rides
                  if ride[:2] == (number, day) and stop in range(ride[2], ride[3])]
        return [sum(thing["amount"] for thing in riding if thing["kind"] == kind) for kind in (0, 1)] + list(self.trip(number)["room"])

    def run(self, number, day):
        if not self.runs(number, day):
            return [-5]
        row = []
        for place, (office, comes, goes) in enumerate(self.trip(number)["stops"]):
            begin = day * 1440 + self.delayed(number, day, range(place))
            here = self.delayed(number, day, [place])
            row += [office, begin + (goes if comes is None else comes), begin + here + (comes if goes is None else goes)]
        return [len(row) // 3, len(row)] + row

    def order(self):
        return [len(self.things), len(self.things)] + [thing["number"] for thing in self.sorted_things()]

    def board(self, number, day, stop):
        if not self.runs(number, day):
            return [-5]
        if stop not in range(self.last_stop(number)):
            return [-1]
        row = [thing["number"] for thing, way, rides in self.book() if (number, day, stop) in [ride[:3] for ride in rides]]
        return [len(row), len(row)] + row

    def runsof(self, day):
        if day not in range(14):
            return [-1]
        row = [trip["number"] for trip in self.trips if self.runs(trip["number"], day)]
        return [0, len(row)] + row

    def late(self, number):
        for thing, way, rides in self.book():
            if thing["number"] == number:
                return [0, way[0] - thing["promise"]] if way and thing["promise"] is not None else [-8]
        return [-4]

    def counts(self):
        return [self.now, len(self.trips), len(self.cancelled), len(self.delays), len(self.things)]


def some_trip(chance, number):
    offices = chance.sample(range(6), chance.choice([2, 2, 3, 3, 4, 5]))
    # Few unlike times, so that many ways are equally early.
    times = [clock(30 * half) for half in sorted(chance.sample(range(60), 2 * len(offices)))]
    times[0] = times[-1] = "-"
    words = [f"TRIP {number}"]
    if chance.random() < 0.4:
        words.append("D=" + "".join(chance.sample("0123456", chance.choice([3, 5, 7]))))
    if chance.random() < 0.6:
        words.append(f"V={chance.choice([0, 0, 0, 2])}-{chance.choice([3, 6, 13])}")
    words.append(f"CAP {chance.randint(0, 9)} {chance.randint(3, 9)} CUT {chance.choice([0, 0, 15, 30, 300])}")
    return [" ".join(words)] + [f"{'ABCDEF'[office]} {times[2 * k]} {times[2 * k + 1]}" for k, office in enumerate(offices)]


def some_lines(chance):
    lines = [f"MIN {letter} {chance.choice([0, 10, 30])}" for letter in "ABCDEF" if chance.random() < 0.4]
    for number in chance.sample(range(10000), chance.choice([1, 2, 5, 6, 6, 6])):
        lines.extend(some_trip(chance, number))
    return lines


def spoiled(chance, lines):
    """Lines in which something is perhaps wrong."""
    lines = list(lines) or [""]
    at = chance.randrange(len(lines))
    words = lines[at].split(" ")
    word = chance.randrange(len(words))
    kind = chance.randrange(8)
    if kind == 0:
        lines.insert(at, chance.choice(["", "  ", "# x", "what", "A - 0600", "MIN C 3", "TRIP 8 CAP 1 1 CUT 1", "TRIP 8", "B 4700 -"]))
    elif kind == 1:
        lines.pop(at)
    elif kind == 2:
        lines.insert(at, chance.choice(lines))
    elif kind == 3:
        words[word] = chance.choice(["", "-", "0", "00", "0000", "0599", "2359", "4800", "D=", "D=1", "D=77", "V=3-2", "V=0-14", "G", "F", "#", "\t"])
        lines[at] = " ".join(words)
    elif kind == 4:
        words[word] = words[word] + chance.choice("0 -A\r")
        lines[at] = " ".join(words)
    elif kind == 5:
        words.pop(word)
        lines[at] = " ".join(words)
    elif kind == 6:
        lines.extend(chance.choice([lines[-2 - chance.randrange(5):], some_trip(chance, 8)]))
    else:
        lines = [line.replace(" ", "  ") for line in lines[:at]] + lines[at:] + [""]
    return lines


def some_text(chance, is_first):
    """A text, the first one without a fault: without a timetable there is little to ask."""
    lines = some_lines(chance)
    for turn in range(0 if is_first else chance.choice([0, 0, 1, 3])):
        lines = spoiled(chance, lines)
    text = [ord(sign) for sign in "\n".join(lines)]
    if chance.random() < 0.15 and not is_first:
        text.append(chance.choice([-1, 256, FAR, -FAR]))
    return text


def some_number(chance, numbers, ends):
    """One of the numbers; now and then one from the ends of the range, or from outside."""
    if chance.random() < 0.94:
        return chance.choice(numbers)
    return chance.choice([ends[0], ends[1], ends[0] - 1, ends[1] + 1, FAR, -FAR])


def some_call(chance, name, plain):
    """The numbers of a call; times rise slowly from the present one."""
    def office():
        return some_number(chance, range(6), (0, 5))

    def thing():
        return some_number(chance, [thing["number"] for thing in plain.things] + [3, 8], (1, 9999))

    def time(steps):
        return some_number(chance, [plain.now + step for step in steps], (0, 100000))

    trips = plain.trips or [{"number": 1, "stops": [0, 0]}]
    trip = chance.choice(trips)
    run = [some_number(chance, [trip["number"]], (0, 9999)), some_number(chance, [0, 1, 2, 3, 4, 7, plain.now // 1440], (0, 13))]
    stop = some_number(chance, range(len(trip["stops"]) - 1), (0, len(trip["stops"]) - 2))
    return {
        "table": lambda: some_text(chance, not plain.trips),
        "cancel": lambda: run,
        "delay": lambda: run + [stop, some_number(chance, [1, 30, 60, 500], (1, 1000))],
        "time": lambda: [time([-1, 0, 300, 300, 700, 1500])],
        "earliest": lambda: [office(), chance.randint(0, 9000), office()],
        "bests": lambda: [office(), chance.randint(0, 3000), office()],
        "latest": lambda: [office(), office(), chance.randint(0, 12000)],
        "post": lambda: [some_number(chance, range(1, 15), (1, 9999)), office(), office(), some_number(chance, [0, 1], (0, 1)),
                         some_number(chance, range(1, 8), (1, 999)), some_number(chance, [0, 1, 2], (0, 9)), time([-30, 0, 0, 30, 600])],
        "withdraw": lambda: [thing()],
        "booked": lambda: [thing()],
        "used": lambda: run + [stop],
        "run": lambda: run,
        "board": lambda: run + [stop],
        "runsof": lambda: [some_number(chance, range(14), (0, 13))],
        "late": lambda: [thing()],
    }.get(name, list)()


# Behind clear there is nothing, so it is drawn rarely but where all are drawn alike.
QUIET = [name for name in NAMES if name not in ("clear", "table")]
BUSY = QUIET + ["post"] * 8 + ["time"] * 3 + ["delay"] * 3 + ["booked", "used", "board", "late", "withdraw"] * 2
MIXED = BUSY * 3 + ["table"] * 4 + ["clear"]


def written(name, numbers):
    return table_of(numbers) if name == "table" else [NAMES.index(name)] + numbers


class Drawn(unittest.TestCase):
    def check(self, seed, count, names):
        chance = random.Random(seed)
        plain = Plain()
        names_drawn = ["table"] + [chance.choice(names) for turn in range(count - 1)]
        calls, told = [], []
        size = 0
        for name in names_drawn:
            numbers = some_call(chance, name, plain)
            size += len(numbers) + 2
            if size <= 16000:
                calls.append(written(name, numbers))
                told.append(getattr(plain, name)(*numbers))
        answers = ask(*calls)
        for place, answer in enumerate(answers):
            self.assertEqual(answer, told[place], f"seed {seed}, call {place}: {names_drawn[place]} {calls[place][1:]}")
        return list(zip(names_drawn, told))

    def test_all_kinds_alike(self):
        for seed in range(40):
            self.check(seed, 60, NAMES)

    def test_much_is_posted_and_asked(self):
        for seed in range(100, 140):
            self.check(seed, 60, BUSY)

    def test_four_hundred_calls(self):
        for seed in range(200, 204):
            self.check(seed, 400, MIXED)

    def test_texts(self):
        seen = set()
        for seed in range(300, 320):
            told = self.check(seed, 60, ["table", "table", "show", "counts", "runsof", "run"])
            seen.update(answer[1] for name, answer in told if name == "table" and answer[0] == 1)
        self.assertEqual(seen, {1, 2, 3, 4, 5, 6})

    def test_what_is_drawn_comes_to_all_answers(self):
        seen = set()
        for seed in range(400, 440):
            seen.update((name, min(answer[0], 1)) for name, answer in self.check(seed, 80, MIXED))
        wanted = {
            "clear": [0], "table": [0, 1, -2, -10], "show": [0, 1], "cancel": [1, -5, -6], "delay": [1, -5, -1, -6], "time": [0, 1, -1, -7],
            "earliest": [1, -1, -8], "bests": [0, 1, -1], "latest": [0, -1, -8], "post": [0, -1, -4, -7], "withdraw": [0, 1, -4, -9],
            "booked": [0, 1, -4], "used": [0, 1, -5, -1], "run": [1, -5], "order": [0, 1], "board": [0, 1, -5, -1], "runsof": [0, -1],
            "late": [0, -4, -8], "counts": [0, 1],
        }
        self.assertEqual({(name, first) for name in wanted for first in wanted[name]} - seen, set())


if __name__ == "__main__":
    unittest.main()
