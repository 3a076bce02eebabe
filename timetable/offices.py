"""The package's one function for use from outside: answers."""

from timetable.calls import answer_call
from timetable.state import State

TABLE = 1

# How many whole numbers stand behind each call's own number; table's text has its count ahead instead.
SIZES = {
    0: 0, 2: 0, 3: 2, 4: 4, 5: 1, 6: 3, 7: 3, 8: 3, 9: 7,
    10: 1, 11: 1, 12: 3, 13: 2, 14: 0, 15: 3, 16: 1, 17: 1, 18: 0,
}


def answers(calls):
    """Answers the calls, one behind another, on a new object: of each how many numbers, and these."""
    state = State()
    told = []
    at = 0
    while at < len(calls):
        begin = at + 1
        if calls[at] == TABLE:
            begin = at + 2
        end = begin + size_of(calls, at)
        answer = answer_call(state, calls[at], calls[begin:end])
        told.append(len(answer))
        told.extend(answer)
        at = end
    return told


def size_of(calls, at):
    """How many numbers the call at this place hands over."""
    if calls[at] == TABLE:
        return calls[at + 1]
    return SIZES[calls[at]]
