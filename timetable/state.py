"""What is kept from call to call."""

from timetable.tables import Table

NO_PROMISE = -1


class Thing:
    """A thing to be carried; begun holds, of each begun ride: the run's key, first stop, later stop."""

    def __init__(self, number, origin, goal, kind, amount, rank, ready):
        self.number = number
        self.origin = origin
        self.goal = goal
        self.kind = kind
        self.amount = amount
        self.rank = rank
        self.ready = ready
        self.promise = NO_PROMISE
        self.begun = []


class State:
    """The timetable, what happened to its runs (by their keys), the present time, the things.

    What is booked is not kept: it follows from all this, and would be stale after the next call.
    """

    def __init__(self):
        self.begin_anew()

    def begin_anew(self):
        self.take_table(Table())
        self.now = 0
        self.things = []

    def take_table(self, table):
        self.table = table
        self.cancelled = {}
        self.delays = {}
        self.delays_told = 0
