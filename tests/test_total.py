"""Promise 15: total."""

import unittest

from tests.lines import AsItWas, COMPRESS, LAST_TIME, RATION, TOTAL, ask, cancel, flight, last, ready, slots

THREE = [slots(100, 10, 4), flight(1, 5, 90, 2), flight(2, 6, 91, 3), flight(3, 5, 92, 4), RATION]


class Total(AsItWas, unittest.TestCase):
    def test_a_new_house(self):
        self.assertEqual(ask(TOTAL), [[0, 0, 0, 0]])
        self.assertEqual(last(RATION, TOTAL), [0, 0, 0, 0])

    def test_slots_alone(self):
        self.assertEqual(ask(slots(100, 10, 4), TOTAL, RATION, TOTAL)[1::2], [[0, 0, 0, 0]] * 2)

    def test_flights_alone(self):
        self.assertEqual(ask(flight(1, 5, 90), TOTAL, flight(2, 6, 90), TOTAL)[1::2], [[0, 1, 0, 0], [0, 2, 0, 0]])

    def test_slots_and_flights_before_they_are_given_out(self):
        self.assertEqual(last(*THREE[:-1], TOTAL), [0, 3, 0, 0])

    def test_given_out(self):
        # The weights don't count here.
        self.assertEqual(ask(*THREE, TOTAL)[4:], [[0, 10 + 19 + 28, 28], [0, 3, 57, 28]])

    def test_the_latest_need_not_be_the_last(self):
        self.assertEqual(last(slots(100, 10, 2), flight(1, 5, 50), flight(2, 6, 105), RATION, TOTAL), [0, 2, 55, 50])

    def test_cancelled_flights(self):
        self.assertEqual(last(*THREE, cancel(3), TOTAL), [0, 2, 29, 19])
        self.assertEqual(last(*THREE, cancel(1), TOTAL), [0, 2, 47, 28])
        self.assertEqual(last(*THREE, cancel(1), cancel(2), cancel(3), TOTAL), [0, 0, 0, 0])
        self.assertEqual(last(flight(1, 5, 90), flight(2, 5, 90), cancel(1), TOTAL), [0, 1, 0, 0])
        self.assertEqual(ask(*THREE[:-1], cancel(2), RATION, TOTAL)[5:], [[0, 38, 28], [0, 2, 38, 28]])

    def test_behind_other_calls(self):
        self.assertEqual(last(*THREE, cancel(1), COMPRESS, TOTAL), [0, 2, 19 + 8, 19])
        self.assertEqual(last(*THREE, ready(1, 125), TOTAL), [0, 3, 40 + 19 + 28, 40])
        self.assertEqual(last(*THREE, flight(4, 5, 93), TOTAL), [0, 4, 57 + 37, 37])
        self.assertEqual(last(*THREE, flight(4, 5, 131), TOTAL), [0, 3, 57, 28])

    def test_the_greatest_sum(self):
        many = [flight(number, number, 0) for number in range(60)]
        late = [LAST_TIME - 59 + number for number in range(60)]
        self.assertEqual(last(slots(LAST_TIME - 59, 1, 60), *many, RATION, TOTAL), [0, 60, sum(late), LAST_TIME])

    def test_changes_nothing(self):
        self.as_it_was([0, 2, 47, 28], [*THREE, cancel(1)], TOTAL)


if __name__ == "__main__":
    unittest.main()
