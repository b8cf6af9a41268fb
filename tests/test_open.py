"""Promise 18: open."""

import unittest

from tests.lines import AsItWas, COMPRESS, OPEN, RATION, ask, best, cancel, flight, last, ready, release, slots

THREE = [slots(100, 10, 5), flight(1, 5, 90, 2), flight(2, 6, 91, 3), flight(3, 5, 115, 4), RATION]


class Open(AsItWas, unittest.TestCase):
    def test_a_new_house(self):
        self.assertEqual(ask(OPEN), [[0, 0]])
        self.assertEqual(last(RATION, OPEN), [0, 0])

    def test_slots_alone(self):
        self.assertEqual(last(slots(100, 10, 4), OPEN), [0, 4, 1, 2, 3, 4])
        self.assertEqual(last(slots(100, 10, 2), RATION, slots(200, 1, 1), OPEN), [0, 3, 1, 2, 3])

    def test_flights_alone(self):
        self.assertEqual(last(flight(1, 5, 90), flight(2, 5, 90), OPEN), [0, 0])

    def test_slots_and_flights_before_they_are_given_out(self):
        self.assertEqual(last(*THREE[:-1], OPEN), [0, 5, 1, 2, 3, 4, 5])

    def test_given_out(self):
        self.assertEqual(last(*THREE, OPEN), [0, 2, 4, 5])
        self.assertEqual(last(slots(100, 10, 3), flight(1, 5, 105), RATION, OPEN), [0, 2, 1, 3])
        self.assertEqual(last(slots(100, 10, 1), flight(1, 5, 95), RATION, OPEN), [0, 0])

    def test_cancelled_flights(self):
        # Open is what no flight has, whoever owns it.
        self.assertEqual(last(*THREE, cancel(2), OPEN), [0, 3, 2, 4, 5])
        self.assertEqual(last(*THREE, cancel(3), cancel(1), OPEN), [0, 4, 1, 3, 4, 5])
        self.assertEqual(last(*THREE, cancel(3), cancel(1), cancel(2), OPEN), [0, 5, 1, 2, 3, 4, 5])
        self.assertEqual(last(*THREE[:-1], cancel(2), OPEN), [0, 5, 1, 2, 3, 4, 5])
        self.assertEqual(last(*THREE[:-1], cancel(2), RATION, OPEN), [0, 3, 2, 4, 5])

    def test_behind_other_calls(self):
        self.assertEqual(last(*THREE, cancel(1), release(1), OPEN), [0, 3, 1, 4, 5])
        self.assertEqual(last(*THREE, cancel(1), COMPRESS, OPEN), [0, 3, 2, 4, 5])
        self.assertEqual(last(*THREE, ready(1, 101), OPEN), [0, 2, 1, 5])
        self.assertEqual(last(*THREE, flight(4, 6, 0), OPEN), [0, 1, 5])
        self.assertEqual(last(*THREE, flight(4, 5, 90), cancel(3), best(5), OPEN), [0, 2, 4, 5])

    def test_120_slots(self):
        self.assertEqual(last(slots(0, 1, 120), OPEN), [0, 120, *range(1, 121)])
        many = [flight(number, 0, 2 * number + 1) for number in range(59, -1, -1)]
        self.assertEqual(last(slots(0, 1, 120), *many, RATION, OPEN), [0, 60, *range(1, 121, 2)])

    def test_changes_nothing(self):
        self.as_it_was([0, 3, 1, 4, 5], [*THREE, cancel(1)], OPEN)


if __name__ == "__main__":
    unittest.main()
