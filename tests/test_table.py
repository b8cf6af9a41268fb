"""Promise 13: table."""

import unittest

from tests.lines import AsItWas, LAST_TIME, RATION, TABLE, ask, cancel, flight, last, ready, release, slots


class Table(AsItWas, unittest.TestCase):
    def test_a_new_house(self):
        self.assertEqual(ask(TABLE), [[0, 0]])
        self.assertEqual(last(RATION, TABLE), [0, 0])

    def test_slots_alone(self):
        self.assertEqual(last(slots(0, 1440, 2), slots(5000, 1, 1), TABLE), [0, 3, 0, 0, 0, 1440, 0, 0, 5000, 0, 0])
        self.assertEqual(last(slots(LAST_TIME, 1, 1), RATION, TABLE), [0, 1, LAST_TIME, 0, 0])

    def test_flights_alone(self):
        self.assertEqual(last(flight(1, 0, 5), flight(2, 4, 6), TABLE), [0, 0])

    def test_slots_and_flights_before_they_are_given_out(self):
        self.assertEqual(last(slots(5, 1, 2), flight(1, 0, 5), TABLE), [0, 2, 5, 0, 0, 6, 0, 0])

    def test_given_out(self):
        self.assertEqual(
            last(slots(100, 10, 4), flight(8, 4, 100), flight(6, 2, 100), flight(7, 4, 121), RATION, TABLE),
            [0, 4, 100, 3, 7, 110, 5, 9, 120, 0, 0, 130, 5, 8],
        )

    def test_the_lowest_and_the_highest(self):
        self.assertEqual(
            last(slots(0, 1, 3), flight(0, 0, 0), flight(999999, 675, 0), RATION, TABLE),
            [0, 3, 0, 1, 1, 1, 676, 1000000, 2, 0, 0],
        )

    def test_cancelled_flights(self):
        begin = [slots(100, 10, 4), flight(8, 4, 100), flight(6, 2, 100), RATION]
        self.assertEqual(last(*begin, cancel(6), TABLE), [0, 4, 100, 3, 0, 110, 5, 9, 120, 0, 0, 130, 0, 0])
        self.assertEqual(last(*begin, cancel(6), cancel(8), TABLE), [0, 4, 100, 3, 0, 110, 5, 0, 120, 0, 0, 130, 0, 0])
        self.assertEqual(last(*begin, cancel(6), RATION, TABLE), [0, 4, 100, 3, 0, 110, 5, 9, 120, 0, 0, 130, 0, 0])

    def test_behind_other_calls(self):
        begin = [slots(100, 10, 4), flight(8, 4, 100), flight(6, 2, 100), RATION]
        self.assertEqual(last(*begin, ready(6, 111), TABLE), [0, 4, 100, 3, 0, 110, 5, 9, 120, 3, 7, 130, 0, 0])
        self.assertEqual(last(*begin, cancel(8), release(2), TABLE), [0, 4, 100, 3, 7, 110, 0, 0, 120, 0, 0, 130, 0, 0])
        self.assertEqual(
            last(*begin, flight(7, 9, 0), slots(200, 1, 1), TABLE),
            [0, 5, 100, 3, 7, 110, 5, 9, 120, 10, 8, 130, 0, 0, 200, 0, 0],
        )

    def test_120_slots_and_60_flights(self):
        many = [flight(number, number, 0) for number in range(59, -1, -1)]
        told = last(slots(0, 3, 120), *many, RATION, TABLE)
        held = [part for number in range(60) for part in (3 * number, number + 1, number + 1)]
        free = [part for number in range(60, 120) for part in (3 * number, 0, 0)]
        self.assertEqual(told, [0, 120, *held, *free])

    def test_changes_nothing(self):
        begin = [slots(100, 10, 2), flight(8, 4, 100), flight(6, 2, 100), RATION, cancel(8)]
        self.as_it_was([0, 2, 100, 3, 7, 110, 5, 0], begin, TABLE)


if __name__ == "__main__":
    unittest.main()
