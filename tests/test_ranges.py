"""Each number of each call, just inside and just outside of its range."""

import unittest

from tests.lines import (
    COMPRESS, FAR, LAST_TIME, LOOK, OPEN, RATION, TABLE, TOTAL, AsItWas, ask, cancel, flight, last, queue, rival, slots,
)

IDS = (0, 999999)
CARRIERS = (0, 675)
TIMES = (0, LAST_TIME)
PLACES = (1, 120)

# Each call with numbers that are in range, and the range of each of them.
CALLS = [
    ([0, 500, 7, 2], [TIMES, (1, 1440), (1, 120)]),
    ([1, 7, 3, 500, 9], [IDS, CARRIERS, TIMES, (1, 1000)]),
    ([2, 1, 1], [IDS, (0, 1)]),
    ([3, 1, 110], [IDS, TIMES]),
    ([4, 1], [IDS]),
    ([5], []),
    ([6], []),
    ([7, 1, 4], [IDS, IDS]),
    ([8, 0], [CARRIERS]),
    ([9, 1, 4, 2, 3], [IDS, IDS, IDS, IDS]),
    ([10, 1], [PLACES]),
    ([11, 1], [IDS]),
    ([12], []),
    ([13, 0], [CARRIERS]),
    ([14], []),
    ([17], []),
]
ROWS = [(queue, IDS), (rival, PLACES)]

NEW = []
DAY = [
    slots(100, 10, 6), flight(1, 0, 90, 1), flight(2, 1, 90, 3), flight(3, 1, 90, 2), flight(4, 0, 90, 4), flight(5, 2, 90),
    RATION, cancel(5),
]


def with_number(call, at, number):
    return call[:at] + [number] + call[at + 1:]


class Ranges(AsItWas, unittest.TestCase):
    def test_each_call_stands_here(self):
        self.assertEqual(sorted([call[0] for call, ranges in CALLS] + [make()[0] for make, bounds in ROWS]), list(range(18)))

    def test_just_outside(self):
        for call, ranges in CALLS:
            for at, (low, high) in enumerate(ranges, start=1):
                for number in (low - 1, high + 1, -FAR, FAR):
                    for begin in (NEW, DAY):
                        with self.subTest(call=call, at=at, number=number):
                            self.refused(-2, begin, with_number(call, at, number))

    def test_just_inside(self):
        for call, ranges in CALLS:
            for at, (low, high) in enumerate(ranges, start=1):
                for number in (low, low + 1, high - 1, high):
                    for begin in (NEW, DAY):
                        with self.subTest(call=call, at=at, number=number):
                            self.assertNotEqual(last(*begin, with_number(call, at, number)), [-2])

    def test_all_at_once(self):
        for call, ranges in CALLS:
            if ranges:
                self.refused(-2, DAY, [call[0], *[low - 1 for low, high in ranges]])
                self.refused(-2, DAY, [call[0], *[high + 1 for low, high in ranges]])
            self.assertNotEqual(last([call[0], *[low for low, high in ranges]]), [-2])
            self.assertNotEqual(last([call[0], *[high for low, high in ranges]]), [-2])

    def test_rows_just_outside(self):
        for make, (low, high) in ROWS:
            for number in (low - 1, high + 1, -FAR, FAR):
                for count in (1, 2, 4, 60):
                    for at in sorted({0, count // 2, count - 1}):
                        row = with_number(list(range(1, count + 1)), at, number)
                        for begin in (NEW, DAY):
                            with self.subTest(row=row):
                                self.refused(-2, begin, make(*row))

    def test_rows_just_inside(self):
        for make, (low, high) in ROWS:
            for number in (low, high):
                for count in (1, 4, 60):
                    for at in (0, count - 1):
                        row = with_number(list(range(1, count + 1)), at, number)
                        for begin in (NEW, DAY):
                            with self.subTest(row=row):
                                self.assertNotEqual(last(*begin, make(*row)), [-2])

    def test_how_long_rows_are(self):
        for make, bounds in ROWS:
            for begin in (NEW, DAY):
                for count in (0, 1, 59, 60):
                    self.assertNotEqual(last(*begin, make(*range(1, count + 1))), [-2])
                for count in (61, 62, 99, 100):
                    self.refused(-2, begin, make(*range(1, count + 1)))

    def test_out_of_range_is_told_ahead_of_all_else(self):
        # In a new house each of these would be refused for something else.
        for call in ([3, 1, -1], [2, 1, 2], [7, 1, -1], [9, 1, 1, 1, -1], [8, 676], [10, 121], queue(1, -1), rival(1, 121)):
            self.refused(-2, NEW, call)
        # And here: there already, full, cancelled, no slot for it.
        for call in ([1, 1, 676, 0, 1], [0, 0, 0, 120], [3, 5, -1], [1, 9, 0, LAST_TIME, 0]):
            self.refused(-2, DAY, call)

    def test_what_stands_behind_is_read(self):
        for call, ranges in CALLS:
            for at in range(1, len(call)):
                got = ask(*DAY, *[with_number(call, at, -1)] * 3, *LOOK)
                self.assertEqual(got[len(DAY):], [[-2]] * 3 + ask(*DAY, *LOOK)[len(DAY):])
        for make, bounds in ROWS:
            for count in (1, 61, 100):
                got = ask(*DAY, make(*[-1] * count), make(), *LOOK)
                self.assertEqual(got[len(DAY):], [[-2], [-13]] + ask(*DAY, *LOOK)[len(DAY):])

    def test_calls_without_numbers_are_never_out_of_range(self):
        for call in (RATION, COMPRESS, TABLE, TOTAL, OPEN):
            self.assertNotEqual(ask(call), [[-2]])


if __name__ == "__main__":
    unittest.main()
