"""Promise 10: trade."""

import unittest

from tests.lines import (
    AsItWas, COMPRESS, FAR, OPEN, RATION, TABLE, TOTAL, ask, best, cancel, carrier, flight, last, ready, slot, slots, swap,
    trade,
)


def four(outer=(1, 4), inner=(3, 2), gap=10):
    """Carrier 0 has the places 1 and 4 with flights 1 and 4, carrier 1 the places 2 and 3 with flights 2 and 3."""
    return [
        slots(100, gap, 4), flight(1, 0, 90, outer[0]), flight(2, 1, 90, inner[0]), flight(3, 1, 90, inner[1]),
        flight(4, 0, 90, outer[1]), RATION,
    ]


class Trade(unittest.TestCase):
    def test_both_pairs_change(self):
        self.assertEqual(
            ask(*four(), trade(1, 4, 2, 3), slot(1), slot(2), slot(3), slot(4))[6:],
            [
                [0, 10 + 4 * 40, 20 + 4 * 30, 3 * 20 + 2 * 30, 3 * 10 + 2 * 40],
                [0, 0, 2, 110, 20], [0, 0, 1, 100, 10], [0, 0, 4, 130, 40], [0, 0, 3, 120, 30],
            ],
        )

    def test_the_first_carrier_is_told_first(self):
        self.assertEqual(last(*four(), trade(2, 3, 1, 4)), [0, 120, 110, 170, 140])
        self.assertEqual(last(*four(), trade(4, 1, 3, 2)), [0, 170, 140, 120, 110])
        self.assertEqual(last(*four(), trade(3, 2, 4, 1)), [0, 120, 110, 170, 140])

    def test_a_changes_with_c_and_b_with_d(self):
        # 1 with 3 and 4 with 2: 100 for 120, and 130 for 110.
        self.assertEqual(
            ask(*four(inner=(2, 3)), trade(1, 4, 3, 2), TABLE)[6:],
            [
                [0, 170, 30 + 4 * 20, 2 * 20 + 3 * 30, 2 * 40 + 3 * 10],
                [0, 4, 100, 2, 4, 110, 1, 5, 120, 1, 2, 130, 2, 3],
            ],
        )

    def test_the_slots_owners_change_with_them(self):
        self.assertEqual(
            ask(*four(), TABLE, trade(1, 4, 2, 3), TABLE)[6:],
            [
                [0, 4, 100, 1, 2, 110, 2, 3, 120, 2, 4, 130, 1, 5],
                [0, 170, 140, 120, 110],
                [0, 4, 100, 2, 3, 110, 1, 2, 120, 1, 5, 130, 2, 4],
            ],
        )

    def test_the_new_owners_last(self):
        begin = [*four(), trade(1, 4, 2, 3)]
        # Place 2 is carrier 0's now, and place 1 carrier 1's.
        self.assertEqual(ask(*begin, cancel(1), best(0), slot(4))[8:], [[0, 4 * 30, 4 * 20], [0, 0, 2, 110, 20]])
        self.assertEqual(ask(*begin, cancel(2), best(1), slot(3))[8:], [[0, 2 * 40, 2 * 10], [0, 0, 1, 100, 10]])
        self.assertEqual(last(*begin, cancel(2), COMPRESS), [0, 1, 3, 4, 1])
        self.assertEqual(last(*begin, swap(1, 4)), [0, 140, 30 + 4 * 20])

    def test_the_other_calls_tell_it(self):
        self.assertEqual(
            ask(*four(), trade(1, 4, 2, 3), carrier(0), carrier(1), TOTAL, OPEN)[7:],
            [[0, 2, 50, 30, 140, 2], [0, 2, 50, 40, 110, 2], [0, 4, 100, 40], [0, 0]],
        )

    def test_other_flights_count_in_the_cost_and_stay(self):
        begin = [
            slots(100, 10, 7), flight(1, 0, 90, 1), flight(2, 1, 90, 3), flight(3, 1, 90, 2), flight(4, 0, 90, 4),
            flight(5, 0, 90, 7), flight(6, 1, 90, 8), flight(7, 0, 90, 9), RATION, cancel(7),
        ]
        self.assertEqual(
            ask(*begin, trade(1, 4, 2, 3), slot(5), slot(6), TABLE)[10:],
            [
                [0, 170 + 350, 140 + 350, 120 + 480, 110 + 480], [0, 0, 5, 140, 50], [0, 0, 6, 150, 60],
                [0, 7, 100, 2, 3, 110, 1, 2, 120, 1, 5, 130, 2, 4, 140, 1, 6, 150, 2, 7, 160, 1, 0],
            ],
        )

    def test_one_carrier_may_come_out_even(self):
        self.assertEqual(last(*four(outer=(3, 3)), trade(1, 4, 2, 3)), [0, 150, 150, 120, 110])
        self.assertEqual(last(*four(inner=(3, 3)), trade(1, 4, 2, 3)), [0, 170, 140, 150, 150])

    def test_by_one_it_is_less(self):
        self.assertEqual(last(*four((1, 2), (1, 1), gap=1), trade(1, 4, 2, 3)), [0, 10 + 26, 11 + 24, 23, 23])
        self.assertEqual(last(*four((1, 1), (2, 1), gap=1), trade(1, 4, 2, 3)), [0, 23, 23, 22 + 12, 20 + 13])

    def test_a_slot_at_the_very_time_that_it_is_ready(self):
        self.assertEqual(last(*four(), ready(2, 100), ready(4, 120), trade(1, 4, 2, 3)), [0, 170, 140, 120, 110])

    def test_there_and_not_back(self):
        begin = [*four(), trade(1, 4, 2, 3)]
        self.assertEqual(last(*begin, trade(1, 4, 2, 3)), [-12])
        self.assertEqual(last(*begin, trade(2, 3, 1, 4)), [-12])


class Refused(AsItWas, unittest.TestCase):
    def test_no_such_flight(self):
        for ids in ((9, 4, 2, 3), (1, 9, 2, 3), (1, 4, 9, 3), (1, 4, 2, 9), (9, 9, 9, 9)):
            self.refused(-5, four(), trade(*ids))
        self.refused(-5, [], trade(1, 4, 2, 3))

    def test_cancelled(self):
        for number in (1, 2, 3, 4):
            self.refused(-9, [*four(), cancel(number)], trade(1, 4, 2, 3))

    def test_without_a_slot(self):
        self.refused(-9, four()[:-1], trade(1, 4, 2, 3))

    def test_not_two_of_one_carrier(self):
        more = [slots(200, 10, 4), flight(5, 0, 190), flight(6, 1, 190), flight(7, 2, 190)]
        for ids in (
            (1, 1, 2, 3), (1, 4, 2, 2), (1, 2, 3, 4), (1, 2, 4, 3), (1, 7, 2, 3), (7, 4, 2, 3), (1, 4, 2, 7), (1, 4, 7, 3),
            (1, 1, 1, 1), (7, 7, 2, 3), (1, 4, 7, 7),
        ):
            self.refused(-10, [*four(), *more], trade(*ids))

    def test_not_of_one_other_carrier(self):
        more = [slots(200, 10, 4), flight(5, 0, 190), flight(6, 0, 190)]
        for ids in ((1, 4, 5, 6), (1, 4, 1, 4), (1, 4, 4, 1), (1, 4, 1, 5), (2, 3, 2, 3)):
            self.refused(-10, [*four(), *more], trade(*ids))

    def test_a_flight_may_not_have_the_slot(self):
        # Flight 2 would get 100, flight 4 would get 120, each told as the first, the second, the third, the fourth.
        for moved in (ready(2, 101), ready(4, 121)):
            for ids in ((1, 4, 2, 3), (4, 1, 3, 2), (2, 3, 1, 4), (3, 2, 4, 1)):
                self.refused(-11, [*four(), moved], trade(*ids))

    def test_a_carriers_cost_would_be_greater(self):
        # The other's would be less, more than this one's would be greater.
        self.refused(-12, four(outer=(3, 2), inner=(900, 1)), trade(1, 4, 2, 3))
        self.refused(-12, four(outer=(1, 900), inner=(2, 3)), trade(1, 4, 2, 3))
        self.refused(-12, four(outer=(3, 2), inner=(2, 3)), trade(1, 4, 2, 3))
        # And where the other's would stay.
        self.refused(-12, four(outer=(3, 2), inner=(2, 2)), trade(1, 4, 2, 3))
        self.refused(-12, four(outer=(2, 2), inner=(2, 3)), trade(1, 4, 2, 3))

    def test_a_carriers_cost_would_be_greater_by_one(self):
        self.refused(-12, four((2, 1), (3, 1), gap=1), trade(1, 4, 2, 3))
        self.refused(-12, four((1, 3), (1, 2), gap=1), trade(1, 4, 2, 3))

    def test_neither_cost_would_be_less(self):
        self.refused(-12, four(outer=(5, 5), inner=(7, 7)), trade(1, 4, 2, 3))

    def test_the_order_of_refusals(self):
        # No such flight, ahead of cancelled; cancelled, ahead of carriers that don't fit; and so on.
        self.refused(-5, [*four(), cancel(1)], trade(1, 4, 2, 9))
        self.refused(-5, four(), trade(1, 1, 1, 9))
        self.refused(-9, [*four(), cancel(3)], trade(1, 1, 2, 3))
        self.refused(-9, [*four(), cancel(3)], trade(1, 2, 4, 3))
        self.refused(-9, [*four(), ready(2, 101), cancel(3)], trade(1, 4, 2, 3))
        self.refused(-10, [*four(), ready(2, 101)], trade(1, 3, 2, 4))
        self.refused(-10, [*four(), ready(2, 101)], trade(1, 1, 2, 3))
        self.refused(-11, [*four(outer=(5, 5), inner=(7, 7)), ready(2, 101)], trade(1, 4, 2, 3))
        self.refused(-11, [*four(outer=(3, 2)), ready(4, 121)], trade(1, 4, 2, 3))

    def test_ranges(self):
        for at in range(4):
            for number in (-1, 1000000, -FAR, FAR):
                ids = [1, 4, 2, 3]
                ids[at] = number
                self.refused(-2, four(), trade(*ids))
                self.refused(-2, [], trade(*ids))
            for number in (0, 999999):
                ids = [1, 4, 2, 3]
                ids[at] = number
                self.refused(-5, four(), trade(*ids))

    def test_the_lowest_and_the_highest_id(self):
        begin = [
            slots(100, 10, 4), flight(0, 0, 90, 1), flight(2, 675, 90, 3), flight(3, 675, 90, 2), flight(999999, 0, 90, 4),
            RATION,
        ]
        self.assertEqual(last(*begin, trade(0, 999999, 2, 3)), [0, 170, 140, 120, 110])
        self.assertEqual(last(*begin, trade(2, 3, 0, 999999)), [0, 120, 110, 170, 140])


if __name__ == "__main__":
    unittest.main()
