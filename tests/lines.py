"""How the tests write a line of calls and read what it answers."""

from slothouse.arrivals import answers

LAST_TIME = 52595999
FAR = 1000000000000000


def slots(first_time, gap, how_many):
    return [0, first_time, gap, how_many]


def flight(number, carrier, planned, weight=1):
    return [1, number, carrier, planned, weight]


def exempt(number, yes):
    return [2, number, yes]


def ready(number, time):
    return [3, number, time]


def cancel(number):
    return [4, number]


RATION = [5]
COMPRESS = [6]


def swap(one, other):
    return [7, one, other]


def best(carrier):
    return [8, carrier]


def trade(a, b, c, d):
    return [9, a, b, c, d]


def release(place):
    return [10, place]


def slot(number):
    return [11, number]


TABLE = [12]


def carrier(number):
    return [13, number]


TOTAL = [14]


def queue(*ids):
    return [15, len(ids), *ids]


def rival(*places):
    return [16, len(places), *places]


OPEN = [17]


def joined(calls):
    return [number for call in calls for number in call]


def split_answers(told):
    parts = []
    at = 0
    while at < len(told):
        behind = at + 1 + told[at]
        parts.append(told[at + 1:behind])
        at = behind
    return parts


def ask(*calls):
    """The answer of every call of a line."""
    return split_answers(answers(joined(calls)))


def last(*calls):
    """The answer of a line's last call."""
    return ask(*calls)[-1]


LOOK = [TABLE, TOTAL, OPEN, *map(slot, range(12)), *map(carrier, range(12))]


class AsItWas:
    """For a test case: what a call answers that must leave the house as it was."""

    def as_it_was(self, told, begin, call):
        got = ask(*begin, *LOOK, call, *LOOK)[len(begin):]
        self.assertEqual(got[len(LOOK)], told)
        self.assertEqual(got[:len(LOOK)], got[len(LOOK) + 1:])

    def refused(self, number, begin, call):
        self.as_it_was([number], begin, call)
