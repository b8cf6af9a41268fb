"""Promise 8: swap."""

import unittest

from tests.lines import COMPRESS, FAR, LAST_TIME, RATION, ask, best, cancel, flight, last, ready, slots, swap

# Flights 1, 2 and 4 are carrier 5's at places 1, 2 and 4, flight 3 is carrier 6's at place 3.
BEGIN = [
    slots(100, 10, 5), flight(1, 5, 90, 3), flight(2, 5, 95, 10), flight(3, 6, 96, 100), flight(4, 5, 105, 2), RATION,
]


class Swap(unittest.TestCase):
    def test_answers_the_cost_before_and_after(self):
        before = 3 * 10 + 10 * 15 + 2 * 25
        self.assertEqual(last(*BEGIN, swap(1, 2)), [0, before, 3 * 20 + 10 * 5 + 2 * 25])
        self.assertEqual(last(*BEGIN, swap(2, 1)), [0, before, 3 * 20 + 10 * 5 + 2 * 25])

    def test_a_greater_cost_is_no_refusal(self):
        before = 3 * 10 + 10 * 15 + 2 * 25
        self.assertEqual(last(*BEGIN, swap(2, 4)), [0, before, 3 * 10 + 10 * 35 + 2 * 5])

    def test_they_have_each_others_slot(self):
        self.assertEqual(
            ask(*BEGIN, swap(1, 2), cancel(1), cancel(2), cancel(3), cancel(4))[7:],
            [[0, 2, 110, 20], [0, 1, 100, 5], [0, 3, 120, 24], [0, 4, 130, 25]],
        )

    def test_there_and_back(self):
        self.assertEqual(ask(*BEGIN, swap(1, 2), swap(1, 2))[6:], [[0, 230, 160], [0, 160, 230]])

    def test_a_cancelled_flight_costs_nothing(self):
        self.assertEqual(ask(*BEGIN, cancel(4), swap(1, 2))[7:], [[0, 30 + 150, 60 + 50]])

    def test_the_greatest_cost(self):
        many = [flight(number, 0, 0, 1000) for number in range(60)]
        whole = 1000 * (60 * (LAST_TIME - 59) + 59 * 60 // 2)
        self.assertEqual(last(slots(LAST_TIME - 59, 1, 60), *many, RATION, swap(0, 59)), [0, whole, whole])

    def test_at_the_very_time_it_may_be_had(self):
        begin = [slots(100, 10, 2), flight(1, 5, 90, 1), flight(2, 5, 100, 2), RATION]
        self.assertEqual(last(*begin, swap(1, 2)), [0, 10 + 20, 20])


class Refused(unittest.TestCase):
    def test_one_is_not_there(self):
        self.assertEqual(ask(*BEGIN, swap(1, 9), swap(9, 1), swap(8, 9), swap(9, 9))[6:], [[-5]] * 4)
        self.assertEqual(ask(swap(1, 2)), [[-5]])

    def test_one_is_cancelled(self):
        self.assertEqual(ask(*BEGIN, cancel(2), swap(1, 2), swap(2, 1), swap(2, 2))[7:], [[-9]] * 3)

    def test_one_has_no_slot(self):
        self.assertEqual(last(flight(1, 5, 0), flight(2, 5, 0), swap(1, 2)), [-9])

    def test_the_carriers_differ(self):
        self.assertEqual(ask(*BEGIN, swap(1, 3), swap(3, 1))[6:], [[-10], [-10]])

    def test_they_are_one_flight(self):
        self.assertEqual(ask(*BEGIN, swap(1, 1), swap(3, 3))[6:], [[-10], [-10]])

    def test_one_may_not_have_the_others_slot(self):
        self.assertEqual(ask(*BEGIN, swap(1, 4), swap(4, 1))[6:], [[-11], [-11]])
        self.assertEqual(ask(*BEGIN, ready(2, 100), swap(1, 2))[7:], [[0, 230, 160]])
        self.assertEqual(ask(*BEGIN, ready(2, 101), swap(1, 2), swap(2, 1))[7:], [[-11], [-11]])

    def test_which_is_told_first(self):
        # Not there before cancelled.
        self.assertEqual(ask(*BEGIN, cancel(2), swap(2, 9), swap(9, 2))[7:], [[-5], [-5]])
        # Without a slot before carriers that differ, and before one flight.
        self.assertEqual(ask(*BEGIN, cancel(2), swap(2, 3), swap(3, 2), swap(2, 2))[7:], [[-9]] * 3)
        self.assertEqual(ask(flight(1, 5, 0), flight(2, 6, 0), swap(1, 2), swap(1, 1))[2:], [[-9], [-9]])
        # Carriers that differ before a slot that may not be had.
        self.assertEqual(ask(*BEGIN, ready(3, 120), swap(1, 3), swap(3, 1))[7:], [[-10], [-10]])

    def test_nothing_changes(self):
        got = ask(
            *BEGIN, swap(1, 4), swap(1, 3), swap(1, 1), swap(1, 9), swap(1, -1),
            swap(1, 2), COMPRESS, cancel(1), cancel(2), cancel(3), cancel(4),
        )
        self.assertEqual(
            got[6:],
            [
                [-11], [-10], [-10], [-5], [-2],
                [0, 230, 160], [0, 0], [0, 2, 110, 20], [0, 1, 100, 5], [0, 3, 120, 24], [0, 4, 130, 25],
            ],
        )

    def test_ranges(self):
        begin = [slots(100, 10, 2), flight(0, 5, 90, 1), flight(999999, 5, 90, 1), RATION]
        self.assertEqual(ask(*begin, swap(0, 999999), swap(999999, 0))[4:], [[0, 30, 30]] * 2)
        for number in (-1, 1000000, -FAR, FAR):
            self.assertEqual(ask(*begin, swap(0, number), swap(number, 0), swap(number, number))[4:], [[-2]] * 3)
            self.assertEqual(ask(swap(7, number), swap(number, 7)), [[-2]] * 2)


class Afterwards(unittest.TestCase):
    def test_the_slots_belong_to_the_carrier_still(self):
        begin = [*BEGIN, swap(1, 2), cancel(1), cancel(2)]
        self.assertEqual(last(*begin, flight(9, 7, 0)), [0, 5, 140, 140])
        self.assertEqual(last(*begin, best(5)), [0, 50, 2 * 5])


if __name__ == "__main__":
    unittest.main()
