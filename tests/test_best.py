"""Promise 9: best."""

import unittest

from tests.lines import COMPRESS, FAR, RATION, ask, best, cancel, flight, last, ready, slots


class Best(unittest.TestCase):
    def test_the_greatest_weight_first(self):
        begin = [slots(100, 10, 4), flight(1, 5, 90, 1), flight(2, 5, 90, 5), flight(3, 5, 90, 9), RATION]
        self.assertEqual(
            ask(*begin, best(5), cancel(1), cancel(2), cancel(3))[5:],
            [[0, 10 + 5 * 20 + 9 * 30, 9 * 10 + 5 * 20 + 30], [0, 3, 120, 30], [0, 2, 110, 20], [0, 1, 100, 10]],
        )

    def test_of_equal_weights_the_lower_id(self):
        begin = [slots(100, 10, 3), flight(5, 0, 90, 4), flight(3, 0, 91, 4), flight(4, 0, 92, 4), RATION]
        self.assertEqual(
            ask(*begin, best(0), cancel(3), cancel(4), cancel(5))[5:],
            [[0, 4 * (10 + 19 + 28), 4 * (9 + 18 + 30)], [0, 1, 100, 9], [0, 2, 110, 18], [0, 3, 120, 30]],
        )

    def test_none_gets_a_slot_that_it_may_not_have(self):
        # Flight 3 is the heaviest, but may have place 2 at the earliest.
        begin = [slots(100, 10, 3), flight(1, 5, 90, 1), flight(2, 5, 91, 2), flight(3, 5, 101, 9), RATION]
        self.assertEqual(
            ask(*begin, best(5), cancel(1), cancel(2), cancel(3))[5:],
            [[0, 10 + 2 * 19 + 9 * 19, 2 * 9 + 9 * 9 + 30], [0, 3, 120, 30], [0, 1, 100, 9], [0, 2, 110, 9]],
        )

    def test_at_the_very_time_it_may_be_had(self):
        begin = [slots(100, 10, 2), flight(1, 5, 90, 1), flight(2, 5, 100, 2), RATION]
        self.assertEqual(last(*begin, best(5)), [0, 10 + 20, 20])
        self.assertEqual(last(*begin, ready(2, 101), best(5)), [0, 30, 30])

    def test_open_slots_of_the_carrier_are_filled(self):
        begin = [slots(100, 10, 5), flight(1, 5, 90, 1), flight(2, 5, 90, 5), flight(3, 5, 90, 9), RATION, cancel(1)]
        self.assertEqual(
            ask(*begin, best(5), cancel(2), cancel(3))[6:],
            [[0, 5 * 20 + 9 * 30, 9 * 10 + 5 * 20], [0, 2, 110, 20], [0, 1, 100, 10]],
        )

    def test_what_is_left_over_is_open_and_the_carriers_still(self):
        begin = [
            slots(100, 10, 5), flight(1, 5, 90, 1), flight(2, 5, 90, 5), flight(3, 5, 90, 9), flight(4, 6, 90, 1), RATION,
            cancel(1), best(5),
        ]
        # Place 3 is left over: a new flight can't take it, one of the carrier's can, and one can come to it.
        self.assertEqual(last(*begin, flight(7, 7, 90)), [0, 5, 140, 50])
        self.assertEqual(last(*begin, ready(2, 111)), [0, 3, 120, 30])
        self.assertEqual(last(*begin, COMPRESS), [0, 1, 4, 4, 3])

    def test_slots_of_others_and_of_nobody_are_left_alone(self):
        # Place 1 is carrier 6's and open, place 2 nobody's and open, place 3 carrier 5's.
        begin = [slots(100, 10, 3), flight(1, 6, 90), flight(2, 5, 95, 7), ready(2, 120), RATION, cancel(1), ready(2, 95)]
        self.assertEqual(ask(*begin, best(5), cancel(2))[5:], [[0, 1, 100, 10], [0, 3, 120, 25], [0, 175, 175], [0, 3, 120, 25]])
        self.assertEqual(last(*begin, best(6)), [0, 0, 0])

    def test_flights_of_others_stay(self):
        begin = [
            slots(100, 10, 4), flight(1, 5, 90, 1), flight(2, 6, 90, 2), flight(3, 5, 90, 3), flight(4, 6, 90, 4), RATION,
        ]
        self.assertEqual(
            ask(*begin, best(5), cancel(2), cancel(4), cancel(1), cancel(3))[6:],
            [[0, 10 + 90, 30 + 30], [0, 2, 110, 20], [0, 4, 130, 40], [0, 3, 120, 30], [0, 1, 100, 10]],
        )
        self.assertEqual(ask(*begin, best(5), best(6), best(5))[6:], [[0, 100, 60], [0, 40 + 160, 80 + 80], [0, 60, 60]])

    def test_a_light_one_goes_ahead_where_the_heavy_one_may_not(self):
        # The light flight 1 takes place 1, as the heavy one may not have it; place 3 is open then.
        begin = [slots(100, 10, 4), flight(1, 5, 90, 1), flight(2, 5, 105, 9), flight(3, 5, 90, 5), RATION, cancel(3)]
        self.assertEqual(
            ask(*begin, best(5), cancel(1), cancel(2))[6:], [[0, 10 + 9 * 15, 10 + 9 * 5], [0, 1, 100, 10], [0, 2, 110, 5]]
        )

    def test_nothing_of_the_carriers(self):
        self.assertEqual(ask(RATION, best(0), best(675)), [[0, 0, 0]] * 3)
        self.assertEqual(ask(slots(100, 10, 2), flight(1, 5, 90), RATION, best(4), cancel(1))[3:], [[0, 0, 0], [0, 1, 100, 10]])
        self.assertEqual(ask(slots(100, 10, 2), flight(1, 5, 90), RATION, cancel(1), best(5))[4:], [[0, 0, 0]])

    def test_60_flights_of_one_carrier(self):
        many = [flight(number, 0, 0, number + 1) for number in range(60)]
        before = sum((number + 1) * number for number in range(60))
        after = sum((number + 1) * (59 - number) for number in range(60))
        self.assertEqual(ask(slots(0, 1, 120), *many, RATION, best(0), cancel(59))[62:], [[0, before, after], [0, 1, 0, 0]])


class Refused(unittest.TestCase):
    def test_slots_have_not_been_given_out(self):
        self.assertEqual(ask(best(0), slots(10, 1, 1), flight(1, 5, 0), best(5), cancel(1)), [
            [-3], [0, 1], [0, 0, 0, 0], [-3], [0, 0, 0, 0],
        ])

    def test_ranges(self):
        self.assertEqual(ask(RATION, best(0), best(675))[1:], [[0, 0, 0]] * 2)
        for carrier in (-1, 676, -FAR, FAR):
            self.assertEqual(ask(best(carrier), RATION, best(carrier)), [[-2], [0, 0, 0], [-2]])


if __name__ == "__main__":
    unittest.main()
