"""Many small lines, compared with a second, slow reading of the promises.

Here a house is a value: every call makes a new one from a copy, so that a refusal leaves the old one by itself.
"""

import copy
import random
import unittest

from tests.lines import LAST_TIME, LOOK, ask

RANGES = {
    0: [(0, LAST_TIME), (1, 1440), (1, 120)],
    1: [(0, 999999), (0, 675), (0, LAST_TIME), (1, 1000)],
    2: [(0, 999999), (0, 1)],
    3: [(0, 999999), (0, LAST_TIME)],
    4: [(0, 999999)],
    5: [],
    6: [],
    7: [(0, 999999), (0, 999999)],
    8: [(0, 675)],
    9: [(0, 999999)] * 4,
    10: [(1, 120)],
    11: [(0, 999999)],
    12: [],
    13: [(0, 675)],
    14: [],
    17: [],
}
ROW_RANGES = {15: (0, 999999), 16: (1, 120)}


class Refused(Exception):
    def __init__(self, number):
        super().__init__(number)
        self.number = number


def refuse_if(condition, number):
    if condition:
        raise Refused(number)


class Model:
    def __init__(self):
        self.times = []
        self.owner = {}
        self.holder = {}
        self.flights = {}
        self.given = False

    def place(self, number):
        return next((place for place, held in self.holder.items() if held == number), 0)

    def late(self, number):
        place = self.place(number)
        return self.times[place - 1] - self.flights[number]["planned"] if place else 0

    def told(self, number):
        place = self.place(number)
        return [place, self.times[place - 1], self.late(number)] if place else [0, 0, 0]

    def alive(self):
        return [number for number in self.flights if self.flights[number]["alive"]]

    def may(self, number, place):
        return self.flights[number]["ready"] <= self.times[place - 1]

    def cost(self, carrier):
        own = [number for number in self.alive() if self.flights[number]["carrier"] == carrier]
        return sum(self.flights[number]["weight"] * self.late(number) for number in own)

    def places(self):
        return range(1, len(self.times) + 1)

    def take(self, number, owners):
        fitting = [
            place for place in self.places()
            if place not in self.holder and self.may(number, place) and self.owner.get(place) in owners
        ]
        refuse_if(not fitting, -7)
        self.holder = {place: held for place, held in self.holder.items() if held != number}
        self.holder[fitting[0]] = number
        self.owner[fitting[0]] = self.flights[number]["carrier"]

    def slots(self, first, gap, count):
        new = [first + gap * step for step in range(count)]
        refuse_if(any(time >= first for time in self.times) or new[-1] > LAST_TIME, -6)
        refuse_if(len(self.times + new) > 120, -8)
        self.times += new
        return [len(self.times)]

    def flight(self, number, carrier, planned, weight):
        refuse_if(number in self.flights, -4)
        refuse_if(len(self.flights) == 60, -8)
        self.flights[number] = {
            "carrier": carrier, "planned": planned, "ready": planned, "weight": weight, "exempt": 0, "alive": True,
        }
        if self.given:
            self.take(number, [None])
        return self.told(number)

    def exempt(self, number, yes):
        refuse_if(number not in self.flights, -5)
        self.flights[number]["exempt"] = yes
        return []

    def ready(self, number, time):
        refuse_if(number not in self.flights, -5)
        refuse_if(not self.flights[number]["alive"], -9)
        refuse_if(time < self.flights[number]["planned"], -6)
        self.flights[number]["ready"] = time
        if self.place(number) and not self.may(number, self.place(number)):
            self.take(number, [None, self.flights[number]["carrier"]])
        return self.told(number)

    def cancel(self, number):
        refuse_if(number not in self.flights, -5)
        refuse_if(not self.flights[number]["alive"], -9)
        had = self.told(number)
        self.flights[number]["alive"] = False
        self.holder.pop(had[0], None)
        return had

    def ration(self):
        left = sorted(self.flights)
        left.sort(key=lambda number: self.flights[number]["planned"])
        left.sort(key=lambda number: -self.flights[number]["exempt"])
        self.holder = {}
        self.owner = {}
        for number in left:
            fitting = [place for place in self.places() if place not in self.holder and self.may(number, place)]
            refuse_if(not fitting, -7)
            self.holder[fitting[0]] = number
            self.owner[fitting[0]] = self.flights[number]["carrier"]
        self.holder = {place: number for place, number in self.holder.items() if self.flights[number]["alive"]}
        self.given = True
        late = [self.late(number) for number in self.alive()]
        return [sum(late), max(late + [0])]

    def compress(self):
        refuse_if(not self.given, -3)
        moves = []
        for place in self.places():
            behind = [
                self.holder[later] for later in self.places()
                if later > place and later in self.holder and self.may(self.holder[later], place)
            ]
            if place in self.holder or not behind:
                continue
            owner = self.owner.get(place)
            own = [number for number in behind if self.flights[number]["carrier"] == owner]
            number = (own + behind)[0]
            left = self.place(number)
            self.holder.pop(left)
            self.holder[place] = number
            self.owner[left] = owner
            self.owner[place] = self.flights[number]["carrier"]
            moves.append((number, left, place))
        return [len(moves)] + [part for move in moves for part in move]

    def swap(self, one, other):
        pair = (one, other)
        refuse_if(any(number not in self.flights for number in pair), -5)
        refuse_if(any(not self.place(number) for number in pair), -9)
        carriers = [self.flights[number]["carrier"] for number in pair]
        refuse_if(carriers[0] != carriers[1] or one == other, -10)
        places = [self.place(number) for number in pair]
        refuse_if(not self.may(one, places[1]) or not self.may(other, places[0]), -11)
        before = self.cost(carriers[0])
        self.holder.update({places[0]: other, places[1]: one})
        return [before, self.cost(carriers[0])]

    def best(self, carrier):
        refuse_if(not self.given, -3)
        before = self.cost(carrier)
        own = [place for place in self.places() if self.owner.get(place) == carrier]
        self.holder = {place: number for place, number in self.holder.items() if place not in own}
        left = [number for number in self.alive() if self.flights[number]["carrier"] == carrier]
        for place in own:
            fitting = [number for number in left if self.may(number, place)]
            if fitting:
                heaviest = max(self.flights[number]["weight"] for number in fitting)
                self.holder[place] = min(n for n in fitting if self.flights[n]["weight"] == heaviest)
                left.remove(self.holder[place])
        return [before, self.cost(carrier)]

    def carriers_of(self, numbers):
        return {self.flights[number]["carrier"] for number in numbers}

    def trade(self, a, b, c, d):
        four = [a, b, c, d]
        refuse_if(not set(four) <= set(self.flights), -5)
        refuse_if(not all(self.place(number) for number in four), -9)
        firsts = self.carriers_of([a, b])
        seconds = self.carriers_of([c, d])
        refuse_if(len(firsts) != 1 or len(seconds) != 1 or firsts == seconds or len(set(four)) != 4, -10)
        new = {self.place(c): a, self.place(a): c, self.place(d): b, self.place(b): d}
        refuse_if(not all(self.may(number, place) for place, number in new.items()), -11)
        pair = [min(firsts), min(seconds)]
        before = [self.cost(carrier) for carrier in pair]
        self.holder.update(new)
        after = [self.cost(carrier) for carrier in pair]
        refuse_if(after[0] > before[0] or after[1] > before[1], -12)
        refuse_if(not after[0] < before[0] and not after[1] < before[1], -12)
        self.owner.update({place: self.flights[number]["carrier"] for place, number in new.items()})
        return [before[0], after[0], before[1], after[1]]

    def release(self, place):
        refuse_if(place not in self.places() or self.owner.get(place) is None, -5)
        refuse_if(place in self.holder, -9)
        self.owner[place] = None
        return []

    def slot(self, number):
        refuse_if(number not in self.flights, -5)
        return [0 if self.flights[number]["alive"] else 1] + self.told(number)

    def table(self):
        told = [len(self.times)]
        for place, time in enumerate(self.times, start=1):
            owner = self.owner.get(place)
            told += [time, 0 if owner is None else owner + 1, self.holder[place] + 1 if place in self.holder else 0]
        return told

    def lateness(self, numbers):
        late = sorted(self.late(number) for number in numbers)
        return [len(late), sum(late), late[-1] if late else 0]

    def carrier(self, carrier):
        own = [number for number in self.alive() if self.flights[number]["carrier"] == carrier]
        return self.lateness(own) + [self.cost(carrier), list(self.owner.values()).count(carrier)]

    def total(self):
        return self.lateness(self.alive())

    def queue(self, *row):
        refuse_if(len(set(row)) != len(row) or set(row) != set(self.alive()), -13)
        got = []
        for number in row:
            fitting = [place for place in self.places() if place not in got and self.may(number, place)]
            refuse_if(not fitting, -7)
            got.append(fitting[0])
        return [len(got)] + got

    def rival(self, *row):
        living = sorted(self.alive())
        refuse_if(len(row) != len(living) or any(place not in self.places() for place in row), -13)
        named = dict(zip(row, living))
        if len(named) < len(row) or not all(self.may(number, place) for place, number in named.items()):
            return [0, 0, 0]
        self.holder = named
        return [1] + self.lateness(living)[1:]

    def open(self):
        free = [place for place in self.places() if place not in self.holder]
        return [len(free)] + free


NAMES = [
    "slots", "flight", "exempt", "ready", "cancel", "ration", "compress", "swap", "best", "trade", "release", "slot", "table",
    "carrier", "total", "queue", "rival", "open",
]
# Whatever these do to the copy they are asked on is let go with it.
CHANGING = range(11)


def numbers_of(call):
    return call[2:] if call[0] in ROW_RANGES else call[1:]


def in_range(call):
    numbers = numbers_of(call)
    ranges = [ROW_RANGES[call[0]]] * len(numbers) if call[0] in ROW_RANGES else RANGES[call[0]]
    short = call[0] not in ROW_RANGES or len(numbers) <= 60
    return short and all(low <= number <= high for number, (low, high) in zip(numbers, ranges))


def model_step(model, call):
    """The house behind a call, and what it answers."""
    if not in_range(call):
        return model, [-2]
    trial = copy.deepcopy(model)
    try:
        told = [0] + getattr(trial, NAMES[call[0]])(*numbers_of(call))
    except Refused as refused:
        return model, [refused.number]
    return (trial if call[0] in CHANGING else model), told


class Chance:
    """Lines in a narrow world, where flights get in one another's way."""

    def __init__(self, seed):
        self.source = random.Random(seed)
        self.flights = self.source.choice([3, 6, 12])
        self.carriers = self.source.choice([1, 2, 4])
        self.end = self.source.choice([12, 30, 60])
        self.last_slot = -1

    def number(self, low, high):
        return self.source.randint(low, high)

    def id_number(self):
        return self.number(0, self.flights)

    def slots_call(self):
        first = max(0, self.last_slot + self.number(0, 6))
        gap = self.number(1, 5)
        count = self.number(1, 8)
        self.last_slot = max(self.last_slot, first + gap * (count - 1))
        return [0, first, gap, count]

    def full_plan(self):
        """Many flights that may have nearly every slot, so that most changes are allowed."""
        self.carriers = 3
        flights = [[1, n, self.number(0, 2), self.number(0, 5), self.number(1, 4)] for n in range(self.flights)]
        return [self.slots_call(), *self.shuffled(flights), [5]]

    def shuffled(self, numbers):
        return self.source.sample(numbers, len(numbers))

    def trade_call(self, model):
        carriers = sorted({flight["carrier"] for flight in model.flights.values()})
        owned = [[n for n in model.flights if model.flights[n]["carrier"] == carrier] for carrier in carriers]
        fleets = [fleet for fleet in owned if len(fleet) > 1]
        if len(fleets) < 2 or self.number(1, 8) == 1:
            return [9] + [self.id_number() for step in range(4)]
        pairs = [self.source.sample(fleets, 2) for step in range(self.number(1, 12))]
        calls = [[9] + [number for fleet in pair for number in self.source.sample(fleet, 2)] for pair in pairs]
        # One that comes far, as most of them don't: behind every other check stands -12.
        return min(calls, key=lambda call: model_step(model, call)[1][0] or -99)

    def queue_call(self, model):
        row = self.shuffled(model.alive())
        fault = self.number(1, 8)
        if fault == 1:
            row = row[1:]
        if fault == 2:
            row = row + [self.id_number()]
        if fault == 3:
            row = [self.id_number() for number in row]
        if fault == 4 and self.number(1, 4) == 1:
            row = row + [self.id_number()] * self.number(60 - len(row), 100 - len(row))
        return [15, len(row)] + row

    def rival_call(self, model):
        living = sorted(model.alive())
        free = list(model.places())
        row = []
        for number in living:
            fitting = [place for place in free if model.may(number, place)]
            row.append(self.source.choice(fitting or free or [1]))
            if self.number(1, 20) > 1 and row[-1] in free:
                free.remove(row[-1])
        fault = self.number(1, 8)
        if fault == 1:
            row = row[1:]
        if fault == 2:
            row = row + [self.number(1, 12)]
        if fault == 3:
            row = [self.number(1, len(model.times) + 1) for place in row]
        if fault == 4 and self.number(1, 4) == 1:
            row = row + [self.number(1, 12)] * self.number(60 - len(row), 100 - len(row))
        return [16, len(row)] + row

    def call(self, model):
        kind = self.source.choice([0, 1, 1, 1, 2, 3, 3, 4, 5, 6, 7, 7, 8, 9, 9, 9, 10, 10, 11, 12, 13, 14, 15, 16, 17])
        shaped = {9: self.trade_call, 15: self.queue_call, 16: self.rival_call}
        if kind == 0:
            return self.slots_call()
        if kind in shaped:
            return shaped[kind](model)
        return [kind] + {
            1: [self.id_number(), self.number(0, self.carriers - 1), self.number(0, self.end), self.number(1, 4)],
            2: [self.id_number(), self.number(0, 1)],
            3: [self.id_number(), self.number(0, self.end + 5)],
            4: [self.id_number()],
            5: [],
            6: [],
            7: [self.id_number(), self.id_number()],
            8: [self.number(0, self.carriers)],
            10: [self.number(1, len(model.times) + 1)],
            11: [self.id_number()],
            12: [],
            13: [self.number(0, self.carriers)],
            14: [],
            17: [],
        }[kind]

    def spoiled(self, call):
        begin = 2 if call[0] in ROW_RANGES else 1
        if len(call) > begin and self.number(1, 40) == 1:
            at = self.number(begin, len(call) - 1)
            low, high = ROW_RANGES[call[0]] if call[0] in ROW_RANGES else RANGES[call[0]][at - 1]
            return call[:at] + [self.source.choice([low - 1, high + 1])] + call[at + 1:]
        return call

    def line(self):
        """A line's calls, and what the model answers to each."""
        first = [0, self.number(0, 5), self.number(1, 4), self.number(1, 12)]
        self.last_slot = first[1] + first[2] * (first[3] - 1)
        calls = [first] + (self.full_plan() if self.number(0, 1) else [])
        count = len(calls) + self.number(5, 60)
        model = Model()
        line = []
        expected = []
        while len(line) < count:
            line.append(calls[len(line)] if len(line) < len(calls) else self.spoiled(self.call(model)))
            model, told = model_step(model, line[-1])
            expected.append(told)
        return line + LOOK, expected + [model_step(model, call)[1] for call in LOOK]


DUE = {
    0: [0, -2, -6], 1: [0, -2, -4, -7], 2: [0, -2, -5], 3: [0, -2, -5, -6, -7, -9], 4: [0, -2, -5, -9], 5: [0, -7],
    6: [0, -3], 7: [0, -2, -5, -9, -10, -11], 8: [0, -2, -3], 9: [0, -2, -5, -9, -10, -11, -12], 10: [0, -2, -5, -9],
    11: [0, -2, -5], 12: [0], 13: [0, -2], 14: [0], 15: [0, -2, -7, -13], 16: [0, -2, -13], 17: [0],
}


class SecondReading(unittest.TestCase):
    def test_many_lines(self):
        seen = {}
        for seed in range(1500):
            line, expected = Chance(seed).line()
            self.assertEqual(ask(*line), expected, line)
            for call, told in zip(line, expected):
                seen[(call[0], told[0])] = seen.get((call[0], told[0]), 0) + 1
                if call[0] == 16 and told[0] == 0:
                    seen[told[1]] = seen.get(told[1], 0) + 1
        # The lines are of use only while they reach every answer of every call.
        due = [(call, told) for call in DUE for told in DUE[call]] + [0, 1]
        self.assertEqual([pair for pair in due if seen.get(pair, 0) < 10], [])


if __name__ == "__main__":
    unittest.main()
