"""What the document says of the whole: nobody comes later by compress, nobody has fewer slots, all are little late."""

import itertools
import random
import unittest

from tests.lines import (
    COMPRESS, OPEN, RATION, TABLE, TOTAL, ask, best, cancel, carrier, exempt, flight, last, queue, ready, release, rival, slot,
    slots,
)

CARRIERS = range(3)


class Day:
    """A line that gives slots out and then changes a few things; some of its changes are refused."""

    def __init__(self, seed):
        source = random.Random(seed)
        self.count = source.randint(2, 7)
        planned = [source.randint(0, 30) for number in range(self.count)]
        self.line = [slots(source.randint(0, 9), source.randint(2, 6), 30)]
        for number in source.sample(range(self.count), self.count):
            self.line.append(flight(number, source.choice(CARRIERS), planned[number], source.randint(1, 9)))
        self.line += [exempt(number, source.randint(0, 1)) for number in range(self.count)] + [RATION]
        self.dead = source.sample(range(self.count), source.randint(0, self.count // 2))
        changes = [cancel(number) for number in self.dead]
        changes += [ready(source.randrange(self.count), source.randint(30, 40)) for step in range(source.randint(0, 2))]
        changes += [release(place) for place in range(1, 31) if source.randint(0, 3) == 0]
        changes += [best(number) for number in CARRIERS]
        self.line += source.sample(changes, len(changes))
        self.living = [number for number in range(self.count) if number not in self.dead]


def lateness(line, numbers):
    return [answer[4] for answer in ask(*line, *map(slot, numbers))[len(line):]]


def owned(line):
    return [answer[5] for answer in ask(*line, *map(carrier, CARRIERS))[len(line):]]


class Whole(unittest.TestCase):
    def test_no_flight_that_is_passed_on_comes_later(self):
        moved = 0
        for seed in range(300):
            day = Day(seed)
            told = last(*day.line, COMPRESS)
            for left, come_to in zip(told[3::3], told[4::3]):
                self.assertLess(come_to, left)
                moved += 1
            before = lateness(day.line, day.living)
            behind = lateness([*day.line, COMPRESS], day.living)
            self.assertTrue(all(late <= was for was, late in zip(before, behind)), day.line)
        self.assertGreater(moved, 100)

    def test_no_carrier_has_fewer_slots_than_before(self):
        for seed in range(300):
            line = Day(seed).line
            self.assertEqual(owned([*line, COMPRESS]), owned(line))
            self.assertEqual(owned([*line, *map(best, CARRIERS)]), owned(line))

    def test_best_leaves_each_living_flight_with_a_slot_of_its_carriers(self):
        for seed in range(300):
            day = Day(seed)
            told = last(*day.line, *map(best, CARRIERS), TABLE)
            held = {number - 1: owner - 1 for owner, number in zip(told[3::3], told[4::3]) if number}
            carriers = {call[1]: call[2] for call in day.line if call[0] == 1}
            self.assertEqual(held, {number: carriers[number] for number in day.living})

    def test_compressed_all_are_as_little_late_as_any_queue_makes_them(self):
        for seed in range(300):
            day = Day(seed)
            line = [*day.line, COMPRESS]
            total = last(*line, TOTAL)
            self.assertEqual(total[1], len(day.living))
            row = random.Random(seed).sample(day.living, len(day.living))
            places = last(*line, queue(*row))[2:]
            named = [place for number, place in sorted(zip(row, places))]
            self.assertEqual(last(*line, rival(*named))[:3], [0, 1, total[2]])
            self.assertEqual(last(*line, COMPRESS), [0, 0])

    def test_compressed_all_are_as_little_late_as_can_be(self):
        for seed in range(40):
            source = random.Random(seed)
            begin = [slots(0, 3, 8)] + [flight(number, number % 2, source.randint(0, 9)) for number in range(5)]
            line = [*begin, RATION, cancel(source.randrange(5)), COMPRESS]
            total = last(*line, TOTAL)[2]
            rows = list(itertools.permutations(range(1, 9), 4))
            told = []
            for at in range(0, len(rows), 180):
                told += ask(*line, *[rival(*row) for row in rows[at:at + 180]])[len(line):]
            self.assertEqual(min(answer[2] for answer in told if answer[1] == 1), total)

    def test_what_is_told_fits_together(self):
        for seed in range(300):
            day = Day(seed)
            got = ask(*day.line, TABLE, OPEN, TOTAL, *map(carrier, CARRIERS), *map(slot, range(day.count)))[len(day.line):]
            table, free, total = got[:3]
            carriers = got[3:6]
            flights = got[6:]
            holders = table[4::3]
            self.assertEqual(free[2:], [place for place, number in enumerate(holders, start=1) if number == 0])
            self.assertEqual(total[1], sum(answer[1] for answer in carriers))
            self.assertEqual(total[2], sum(answer[2] for answer in carriers))
            self.assertEqual(total[3], max(answer[3] for answer in carriers))
            self.assertEqual(sum(answer[5] for answer in carriers), len([owner for owner in table[3::3] if owner]))
            for number, answer in enumerate(flights):
                self.assertEqual(answer[1], 1 if number in day.dead else 0)
                self.assertEqual(answer[2], holders.index(number + 1) + 1 if number + 1 in holders else 0)


if __name__ == "__main__":
    unittest.main()
