"""Many small lines, compared with a second, slow reading of the promises 1 to 9.

Here a house is a value: every call makes a new one from a copy, so that a refusal leaves the old one by itself.
"""

import copy
import random
import unittest

from tests.lines import LAST_TIME, ask

RANGES = {
    0: [(0, LAST_TIME), (1, 1440), (1, 120)],
    1: [(0, 999999), (0, 675), (0, LAST_TIME), (1, 1000)],
    2: [(0, 999999), (0, 1)],
    3: [(0, 999999), (0, LAST_TIME)],
    4: [(0, 999999)],
    5: [],
    6: [],
    7: [(0, 999999), (0, 999999)],
    8: [(0, 675)],
}


class Refused(Exception):
    def __init__(self, number):
        super().__init__(number)
        self.number = number


def refuse_if(condition, number):
    if condition:
        raise Refused(number)


class Model:
    def __init__(self):
        self.times = []
        self.owner = {}
        self.holder = {}
        self.flights = {}
        self.given = False

    def place(self, number):
        return next((place for place, held in self.holder.items() if held == number), 0)

    def late(self, number):
        place = self.place(number)
        return self.times[place - 1] - self.flights[number]["planned"] if place else 0

    def told(self, number):
        place = self.place(number)
        return [place, self.times[place - 1], self.late(number)] if place else [0, 0, 0]

    def alive(self):
        return [number for number in self.flights if self.flights[number]["alive"]]

    def may(self, number, place):
        return self.flights[number]["ready"] <= self.times[place - 1]

    def cost(self, carrier):
        own = [number for number in self.alive() if self.flights[number]["carrier"] == carrier]
        return sum(self.flights[number]["weight"] * self.late(number) for number in own)

    def places(self):
        return range(1, len(self.times) + 1)

    def take(self, number, owners):
        fitting = [
            place for place in self.places()
            if place not in self.holder and self.may(number, place) and self.owner.get(place) in owners
        ]
        refuse_if(not fitting, -7)
        self.holder = {place: held for place, held in self.holder.items() if held != number}
        self.holder[fitting[0]] = number
        self.owner[fitting[0]] = self.flights[number]["carrier"]

    def slots(self, first, gap, count):
        new = [first + gap * step for step in range(count)]
        refuse_if(any(time >= first for time in self.times) or new[-1] > LAST_TIME, -6)
        refuse_if(len(self.times + new) > 120, -8)
        self.times += new
        return [len(self.times)]

    def flight(self, number, carrier, planned, weight):
        refuse_if(number in self.flights, -4)
        refuse_if(len(self.flights) == 60, -8)
        self.flights[number] = {
            "carrier": carrier, "planned": planned, "ready": planned, "weight": weight, "exempt": 0, "alive": True,
        }
        if self.given:
            self.take(number, [None])
        return self.told(number)

    def exempt(self, number, yes):
        refuse_if(number not in self.flights, -5)
        self.flights[number]["exempt"] = yes
        return []

    def ready(self, number, time):
        refuse_if(number not in self.flights, -5)
        refuse_if(not self.flights[number]["alive"], -9)
        refuse_if(time < self.flights[number]["planned"], -6)
        self.flights[number]["ready"] = time
        if self.place(number) and not self.may(number, self.place(number)):
            self.take(number, [None, self.flights[number]["carrier"]])
        return self.told(number)

    def cancel(self, number):
        refuse_if(number not in self.flights, -5)
        refuse_if(not self.flights[number]["alive"], -9)
        had = self.told(number)
        self.flights[number]["alive"] = False
        self.holder.pop(had[0], None)
        return had

    def ration(self):
        left = sorted(self.flights)
        left.sort(key=lambda number: self.flights[number]["planned"])
        left.sort(key=lambda number: -self.flights[number]["exempt"])
        self.holder = {}
        self.owner = {}
        for number in left:
            fitting = [place for place in self.places() if place not in self.holder and self.may(number, place)]
            refuse_if(not fitting, -7)
            self.holder[fitting[0]] = number
            self.owner[fitting[0]] = self.flights[number]["carrier"]
        self.holder = {place: number for place, number in self.holder.items() if self.flights[number]["alive"]}
        self.given = True
        late = [self.late(number) for number in self.alive()]
        return [sum(late), max(late + [0])]

    def compress(self):
        refuse_if(not self.given, -3)
        moves = []
        for place in self.places():
            behind = [
                self.holder[later] for later in self.places()
                if later > place and later in self.holder and self.may(self.holder[later], place)
            ]
            if place in self.holder or not behind:
                continue
            owner = self.owner.get(place)
            own = [number for number in behind if self.flights[number]["carrier"] == owner]
            number = (own + behind)[0]
            left = self.place(number)
            self.holder.pop(left)
            self.holder[place] = number
            self.owner[left] = owner
            self.owner[place] = self.flights[number]["carrier"]
            moves.append((number, left, place))
        return [len(moves)] + [part for move in moves for part in move]

    def swap(self, one, other):
        pair = (one, other)
        refuse_if(any(number not in self.flights for number in pair), -5)
        refuse_if(any(not self.place(number) for number in pair), -9)
        carriers = [self.flights[number]["carrier"] for number in pair]
        refuse_if(carriers[0] != carriers[1] or one == other, -10)
        places = [self.place(number) for number in pair]
        refuse_if(not self.may(one, places[1]) or not self.may(other, places[0]), -11)
        before = self.cost(carriers[0])
        self.holder.update({places[0]: other, places[1]: one})
        return [before, self.cost(carriers[0])]

    def best(self, carrier):
        refuse_if(not self.given, -3)
        before = self.cost(carrier)
        own = [place for place in self.places() if self.owner.get(place) == carrier]
        self.holder = {place: number for place, number in self.holder.items() if place not in own}
        left = [number for number in self.alive() if self.flights[number]["carrier"] == carrier]
        for place in own:
            fitting = [number for number in left if self.may(number, place)]
            if fitting:
                heaviest = max(self.flights[number]["weight"] for number in fitting)
                self.holder[place] = min(n for n in fitting if self.flights[n]["weight"] == heaviest)
                left.remove(self.holder[place])
        return [before, self.cost(carrier)]


NAMES = ["slots", "flight", "exempt", "ready", "cancel", "ration", "compress", "swap", "best"]


def model_answers(line):
    model = Model()
    told = []
    for call in line:
        numbers = call[1:]
        if any(not low <= number <= high for number, (low, high) in zip(numbers, RANGES[call[0]])):
            told.append([-2])
            continue
        trial = copy.deepcopy(model)
        try:
            told.append([0] + getattr(trial, NAMES[call[0]])(*numbers))
            model = trial
        except Refused as refused:
            told.append([refused.number])
    return told


class Chance:
    """Lines in a narrow world, where flights get in one another's way."""

    def __init__(self, seed):
        self.source = random.Random(seed)
        self.flights = self.source.choice([3, 6, 12])
        self.carriers = self.source.choice([1, 2, 4])
        self.end = self.source.choice([12, 30, 60])
        self.last_slot = -1

    def number(self, low, high):
        return self.source.randint(low, high)

    def id_number(self):
        return self.number(0, self.flights)

    def slots_call(self):
        first = max(0, self.last_slot + self.number(0, 6))
        gap = self.number(1, 5)
        count = self.number(1, 8)
        self.last_slot = max(self.last_slot, first + gap * (count - 1))
        return [0, first, gap, count]

    def call(self):
        kind = self.source.choice([0, 1, 1, 1, 2, 3, 3, 4, 5, 6, 7, 7, 8])
        if kind == 0:
            return self.slots_call()
        return [kind] + {
            1: [self.id_number(), self.number(0, self.carriers - 1), self.number(0, self.end), self.number(1, 4)],
            2: [self.id_number(), self.number(0, 1)],
            3: [self.id_number(), self.number(0, self.end + 5)],
            4: [self.id_number()],
            5: [],
            6: [],
            7: [self.id_number(), self.id_number()],
            8: [self.number(0, self.carriers)],
        }[kind]

    def spoiled(self, call):
        if len(call) > 1 and self.number(1, 40) == 1:
            at = self.number(1, len(call) - 1)
            low, high = RANGES[call[0]][at - 1]
            return call[:at] + [self.source.choice([low - 1, high + 1])] + call[at + 1:]
        return call

    def line(self):
        begin = [[0, self.number(0, 5), self.number(1, 4), self.number(1, 12)]]
        self.last_slot = begin[0][1] + begin[0][2] * (begin[0][3] - 1)
        return begin + [self.spoiled(self.call()) for step in range(self.number(5, 60))]


class SecondReading(unittest.TestCase):
    def test_many_lines(self):
        seen = {}
        for seed in range(1500):
            line = Chance(seed).line()
            expected = model_answers(line)
            self.assertEqual(ask(*line), expected, line)
            for call, told in zip(line, expected):
                seen[(call[0], told[0])] = seen.get((call[0], told[0]), 0) + 1
        # The lines are of use only while they reach every answer of every call.
        due = [
            (0, 0), (0, -2), (0, -6), (1, 0), (1, -2), (1, -4), (1, -7), (2, 0), (2, -2), (2, -5),
            (3, 0), (3, -2), (3, -5), (3, -6), (3, -7), (3, -9), (4, 0), (4, -2), (4, -5), (4, -9), (5, 0), (5, -7),
            (6, 0), (6, -3), (7, 0), (7, -2), (7, -5), (7, -9), (7, -10), (7, -11), (8, 0), (8, -2), (8, -3),
        ]
        self.assertEqual([pair for pair in due if seen.get(pair, 0) < 10], [])


if __name__ == "__main__":
    unittest.main()
