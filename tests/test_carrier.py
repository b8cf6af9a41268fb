"""Promise 14: carrier."""

import unittest

from tests.lines import (
    AsItWas, COMPRESS, FAR, LAST_TIME, RATION, ask, best, cancel, carrier, flight, last, ready, release, slots,
)

# Carrier 5 has the places 1 and 3, carrier 6 place 2; place 4 is nobody's.
THREE = [slots(100, 10, 4), flight(1, 5, 90, 2), flight(2, 6, 91, 3), flight(3, 5, 92, 4), RATION]


class Carrier(AsItWas, unittest.TestCase):
    def test_a_new_house(self):
        self.assertEqual(ask(carrier(0), carrier(675)), [[0, 0, 0, 0, 0, 0]] * 2)
        self.assertEqual(last(RATION, carrier(0)), [0, 0, 0, 0, 0, 0])

    def test_slots_alone(self):
        # What nobody owns is no carrier's, not carrier 0's either.
        self.assertEqual(ask(slots(100, 10, 4), carrier(0), RATION, carrier(0))[1::2], [[0, 0, 0, 0, 0, 0]] * 2)

    def test_flights_alone(self):
        line = [flight(1, 5, 90, 7), flight(2, 6, 90), flight(3, 5, 0)]
        self.assertEqual(
            ask(*line, carrier(5), carrier(6), carrier(0))[3:], [[0, 2, 0, 0, 0, 0], [0, 1, 0, 0, 0, 0], [0, 0, 0, 0, 0, 0]]
        )

    def test_slots_and_flights_before_they_are_given_out(self):
        self.assertEqual(last(*THREE[:-1], carrier(5)), [0, 2, 0, 0, 0, 0])

    def test_given_out(self):
        self.assertEqual(
            ask(*THREE, carrier(5), carrier(6), carrier(7))[5:],
            [[0, 2, 10 + 28, 28, 2 * 10 + 4 * 28, 2], [0, 1, 19, 19, 57, 1], [0, 0, 0, 0, 0, 0]],
        )

    def test_the_latest_need_not_be_the_last(self):
        line = [slots(100, 10, 2), flight(1, 5, 50, 3), flight(2, 5, 105, 2), RATION]
        self.assertEqual(last(*line, carrier(5)), [0, 2, 50 + 5, 50, 150 + 10, 2])

    def test_on_time(self):
        self.assertEqual(last(slots(100, 10, 2), flight(1, 5, 100, 9), RATION, carrier(5)), [0, 1, 0, 0, 0, 1])

    def test_late_is_counted_from_the_planned_time(self):
        self.assertEqual(last(*THREE, ready(2, 125), carrier(6)), [0, 1, 39, 39, 117, 2])

    def test_cancelled_flights(self):
        # Its slot is the carrier's still.
        self.assertEqual(last(*THREE, cancel(1), carrier(5)), [0, 1, 28, 28, 112, 2])
        self.assertEqual(last(*THREE, cancel(3), carrier(5)), [0, 1, 10, 10, 20, 2])
        self.assertEqual(last(*THREE, cancel(1), cancel(3), carrier(5)), [0, 0, 0, 0, 0, 2])
        self.assertEqual(last(flight(1, 5, 90), cancel(1), carrier(5)), [0, 0, 0, 0, 0, 0])
        self.assertEqual(last(*THREE[:-1], cancel(1), RATION, carrier(5)), [0, 1, 28, 28, 112, 2])

    def test_behind_other_calls(self):
        self.assertEqual(last(*THREE, cancel(1), release(1), carrier(5)), [0, 1, 28, 28, 112, 1])
        self.assertEqual(last(*THREE, cancel(1), COMPRESS, carrier(5)), [0, 1, 8, 8, 32, 2])
        self.assertEqual(last(*THREE, best(5), carrier(5)), [0, 2, 30 + 8, 30, 60 + 32, 2])
        self.assertEqual(last(*THREE, flight(4, 5, 93, 10), carrier(5)), [0, 3, 38 + 37, 37, 132 + 370, 3])

    def test_the_greatest_cost(self):
        many = [flight(number, 675, 0, 1000) for number in range(60)]
        late = [LAST_TIME - 119 + number for number in range(60)]
        self.assertEqual(
            last(slots(LAST_TIME - 119, 1, 120), *many, RATION, carrier(675)),
            [0, 60, sum(late), max(late), 1000 * sum(late), 60],
        )

    def test_changes_nothing(self):
        self.as_it_was([0, 1, 28, 28, 112, 2], [*THREE, cancel(1)], carrier(5))


class Refused(AsItWas, unittest.TestCase):
    def test_ranges(self):
        for number in (-1, 676, -FAR, FAR):
            for begin in ([], THREE):
                self.as_it_was([-2], begin, carrier(number))
        for number in (0, 675):
            self.assertEqual(last(slots(7, 1, 1), flight(1, number, 5, 3), RATION, carrier(number)), [0, 1, 2, 2, 6, 1])


if __name__ == "__main__":
    unittest.main()
