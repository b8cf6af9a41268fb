"""Promise 2: flight."""

import unittest

from tests.lines import (
    COMPRESS, FAR, LAST_TIME, RATION, ask, best, cancel, exempt, flight, last, ready, slots, swap,
)


class BeforeSlotsAreGivenOut(unittest.TestCase):
    def test_has_no_slot(self):
        self.assertEqual(
            ask(flight(1, 0, 10), slots(0, 10, 5), flight(2, 3, 0, 1000), cancel(1), cancel(2)),
            [[0, 0, 0, 0], [0, 5], [0, 0, 0, 0], [0, 0, 0, 0], [0, 0, 0, 0]],
        )

    def test_is_not_exempt_and_ready_when_planned(self):
        got = ask(slots(10, 10, 3), flight(1, 0, 20), flight(2, 0, 10), RATION, cancel(1), cancel(2))
        self.assertEqual(got[3:], [[0, 0, 0], [0, 2, 20, 0], [0, 1, 10, 0]])


class AfterSlotsAreGivenOut(unittest.TestCase):
    def test_takes_the_first_that_it_may_have(self):
        self.assertEqual(
            ask(slots(100, 10, 4), RATION, flight(1, 5, 110), flight(2, 5, 101), flight(3, 6, 0), flight(4, 0, 130)),
            [[0, 4], [0, 0, 0], [0, 2, 110, 0], [0, 3, 120, 19], [0, 1, 100, 100], [0, 4, 130, 0]],
        )

    def test_leaves_slots_owned_by_a_carrier(self):
        # Place 1 is open and owned by carrier 3, place 2 by carrier 4.
        begin = [slots(100, 10, 4), flight(1, 3, 100), flight(2, 4, 100), RATION, cancel(1), cancel(2)]
        self.assertEqual(last(*begin, flight(9, 3, 100)), [0, 3, 120, 20])
        self.assertEqual(last(*begin, flight(9, 4, 100)), [0, 3, 120, 20])
        self.assertEqual(last(*begin, flight(9, 5, 100)), [0, 3, 120, 20])
        self.assertEqual(last(*begin, flight(9, 0, 100)), [0, 3, 120, 20])

    def test_its_carrier_owns_the_slot_from_then_on(self):
        begin = [slots(100, 10, 3), RATION, flight(1, 3, 100), flight(2, 3, 110), cancel(2)]
        self.assertEqual(last(*begin, flight(4, 4, 100)), [0, 3, 120, 20])
        self.assertEqual(last(*begin, flight(4, 3, 100)), [0, 3, 120, 20])
        self.assertEqual(last(*begin, ready(1, 101)), [0, 2, 110, 10])

    def test_the_planned_time_decides_and_the_weight_counts(self):
        self.assertEqual(
            ask(slots(100, 10, 3), RATION, flight(1, 3, 95, 1000), flight(2, 3, 100, 7), best(3), swap(1, 2)),
            [[0, 3], [0, 0, 0], [0, 1, 100, 5], [0, 2, 110, 10], [0, 5070, 5070], [0, 5070, 15000]],
        )

    def test_none_is_left(self):
        self.assertEqual(ask(RATION, flight(1, 0, 0)), [[0, 0, 0], [-7]])
        self.assertEqual(ask(slots(10, 1, 1), RATION, flight(1, 0, 11)), [[0, 1], [0, 0, 0], [-7]])
        self.assertEqual(
            ask(slots(10, 1, 1), RATION, flight(1, 0, 10), flight(2, 0, 10), cancel(1), flight(2, 0, 10)),
            [[0, 1], [0, 0, 0], [0, 1, 10, 0], [-7], [0, 1, 10, 0], [-7]],
        )

    def test_is_not_there_after_a_refusal(self):
        self.assertEqual(
            ask(slots(10, 1, 1), RATION, flight(1, 0, 11), cancel(1), exempt(1, 1), RATION, flight(1, 2, 10), cancel(1)),
            [[0, 1], [0, 0, 0], [-7], [-5], [-5], [0, 0, 0], [0, 1, 10, 0], [0, 1, 10, 0]],
        )


class ThereAlready(unittest.TestCase):
    def test_living_or_cancelled(self):
        self.assertEqual(
            ask(flight(1, 0, 10), flight(1, 5, 20), cancel(1), flight(1, 0, 10)),
            [[0, 0, 0, 0], [-4], [0, 0, 0, 0], [-4]],
        )

    def test_the_first_one_stays(self):
        got = ask(slots(10, 10, 2), flight(1, 0, 20, 3), flight(1, 5, 10, 9), RATION, flight(2, 0, 10), best(5), best(0))
        self.assertEqual(
            got, [[0, 2], [0, 0, 0, 0], [-4], [0, 0, 0], [0, 1, 10, 0], [0, 0, 0], [0, 0, 0]]
        )

    def test_is_told_before_full_and_before_no_slot(self):
        many = [flight(number, 0, 0) for number in range(60)]
        self.assertEqual(last(*many, flight(59, 0, 0)), [-4])
        self.assertEqual(last(slots(5, 1, 1), flight(1, 0, 0), RATION, flight(1, 0, 0)), [-4])


class Full(unittest.TestCase):
    def test_60_are_taken(self):
        many = [flight(number, 0, 0) for number in range(59)]
        self.assertEqual(
            ask(*many, flight(99, 0, 0), flight(100, 0, 0))[59:], [[0, 0, 0, 0], [-8]]
        )

    def test_cancelled_ones_count(self):
        many = [flight(number, 0, 0) for number in range(60)]
        self.assertEqual(ask(*many, cancel(3), cancel(4), flight(60, 0, 0))[60:], [[0, 0, 0, 0], [0, 0, 0, 0], [-8]])

    def test_refused_ones_do_not_count(self):
        many = [flight(number, 0, 0) for number in range(59)]
        self.assertEqual(
            ask(*many, flight(3, 0, 0), flight(60, 676, 0), flight(60, 0, 0), flight(61, 0, 0))[59:],
            [[-4], [-2], [0, 0, 0, 0], [-8]],
        )

    def test_is_told_before_no_slot(self):
        many = [flight(number, 0, 0) for number in range(60)]
        self.assertEqual(last(slots(0, 1, 60), *many, RATION, flight(60, 0, 0)), [-8])
        self.assertEqual(last(slots(0, 1, 59), *many[:59], RATION, flight(60, 0, 0)), [-7])

    def test_60_flights_on_120_slots(self):
        many = [flight(number, number, 0) for number in range(60)]
        got = ask(slots(0, 1, 120), *many, RATION, COMPRESS, flight(60, 0, 0), cancel(59))
        self.assertEqual(got[61:], [[0, 59 * 60 // 2, 59], [0, 0], [-8], [0, 60, 59, 59]])


class Ranges(unittest.TestCase):
    def test_first_and_last_of_each_range(self):
        self.assertEqual(
            ask(flight(0, 0, 0, 1), flight(999999, 675, LAST_TIME, 1000), cancel(0), cancel(999999)),
            [[0, 0, 0, 0]] * 4,
        )

    def test_just_beyond_and_far_beyond(self):
        for number in (-1, 1000000, -FAR, FAR):
            self.assertEqual(last(flight(number, 0, 0, 1)), [-2])
        for carrier in (-1, 676, -FAR, FAR):
            self.assertEqual(ask(flight(1, carrier, 0, 1), flight(1, 0, 0, 1)), [[-2], [0, 0, 0, 0]])
        for planned in (-1, LAST_TIME + 1, -FAR, FAR):
            self.assertEqual(ask(flight(1, 0, planned, 1), flight(1, 0, 0, 1)), [[-2], [0, 0, 0, 0]])
        for weight in (0, -1, 1001, -FAR, FAR):
            self.assertEqual(ask(flight(1, 0, 0, weight), flight(1, 0, 0, 1)), [[-2], [0, 0, 0, 0]])

    def test_out_of_range_is_told_before_all_else(self):
        many = [flight(number, 0, 0) for number in range(60)]
        self.assertEqual(last(*many, flight(3, 0, 0, 0)), [-2])
        self.assertEqual(last(*many, flight(60, 676, 0)), [-2])
        self.assertEqual(last(RATION, flight(60, 0, LAST_TIME + 1)), [-2])


if __name__ == "__main__":
    unittest.main()
