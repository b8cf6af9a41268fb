"""Promise 6: ration."""

import unittest

from tests.lines import (
    COMPRESS, LAST_TIME, RATION, ask, best, cancel, exempt, flight, last, ready, slots, swap,
)


class Order(unittest.TestCase):
    def test_the_earlier_planned_time_first(self):
        self.assertEqual(
            ask(
                slots(100, 10, 3), flight(1, 0, 99), flight(2, 1, 98), flight(3, 2, 97), RATION,
                cancel(1), cancel(2), cancel(3),
            ),
            [
                [0, 3], [0, 0, 0, 0], [0, 0, 0, 0], [0, 0, 0, 0], [0, 3 + 12 + 21, 21],
                [0, 3, 120, 21], [0, 2, 110, 12], [0, 1, 100, 3],
            ],
        )

    def test_of_equal_times_the_lower_id_first(self):
        self.assertEqual(
            ask(slots(100, 10, 3), flight(7, 0, 100), flight(3, 1, 100), flight(5, 2, 100), RATION,
                cancel(7), cancel(3), cancel(5))[4:],
            [[0, 30, 20], [0, 3, 120, 20], [0, 1, 100, 0], [0, 2, 110, 10]],
        )

    def test_the_weight_and_the_carrier_play_no_part(self):
        self.assertEqual(
            ask(slots(100, 10, 2), flight(3, 9, 100, 1), flight(4, 0, 100, 1000), RATION, cancel(3), cancel(4))[3:],
            [[0, 10, 10], [0, 1, 100, 0], [0, 2, 110, 10]],
        )

    def test_exempt_ones_before_all_others(self):
        got = ask(
            slots(100, 10, 5), flight(1, 0, 10), flight(2, 0, 40), flight(3, 0, 30), flight(4, 0, 30), flight(5, 0, 20),
            exempt(2, 1), exempt(3, 1), exempt(4, 1), RATION, cancel(1), cancel(2), cancel(3), cancel(4), cancel(5),
        )
        self.assertEqual([told[1] for told in got[10:]], [4, 3, 1, 2, 5])

    def test_the_planned_time_orders_and_the_ready_time_bounds(self):
        # Flight 1 comes first by the plan, though it is ready last.
        self.assertEqual(
            ask(slots(100, 10, 3), flight(1, 0, 100), flight(2, 0, 101), flight(3, 0, 102),
                ready(1, 110), RATION, cancel(1), cancel(2), cancel(3))[5:],
            [[-7], [0, 0, 0, 0], [0, 0, 0, 0], [0, 0, 0, 0]],
        )
        self.assertEqual(
            ask(slots(100, 10, 3), flight(1, 0, 99), flight(2, 0, 100), ready(1, 120), RATION, cancel(1), cancel(2))[4:],
            [[0, 21, 21], [0, 3, 120, 21], [0, 1, 100, 0]],
        )

    def test_a_later_flight_takes_an_earlier_slot_that_is_left(self):
        # An exempt flight that is planned late leaves the earlier slots to the others.
        self.assertEqual(
            ask(slots(100, 10, 3), flight(1, 0, 120), flight(2, 0, 95), exempt(1, 1), RATION, cancel(1), cancel(2))[4:],
            [[0, 5, 5], [0, 3, 120, 0], [0, 1, 100, 5]],
        )

    def test_a_slot_at_the_very_time_may_be_had(self):
        self.assertEqual(
            ask(slots(100, 1, 2), flight(1, 0, 100), flight(2, 0, 101), RATION)[3], [0, 0, 0]
        )
        self.assertEqual(ask(slots(100, 1, 2), flight(1, 0, 101), RATION, cancel(1))[2:], [[0, 0, 0], [0, 2, 101, 0]])
        self.assertEqual(last(slots(LAST_TIME, 1, 1), flight(1, 0, LAST_TIME), RATION), [0, 0, 0])
        self.assertEqual(last(slots(LAST_TIME, 1, 1), flight(1, 0, 0), RATION), [0, LAST_TIME, LAST_TIME])


class Cancelled(unittest.TestCase):
    def test_they_take_a_slot_for_their_carrier_and_have_none(self):
        begin = [slots(100, 10, 4), flight(1, 3, 90), flight(2, 4, 90), cancel(1), RATION]
        self.assertEqual(ask(*begin, cancel(2))[3:], [[0, 0, 0, 0], [0, 20, 20], [0, 2, 110, 20]])
        # Place 1 is carrier 3's and open: no new flight takes it, another flight comes to it.
        self.assertEqual(last(*begin, flight(9, 3, 90)), [0, 3, 120, 30])
        self.assertEqual(ask(*begin, flight(9, 3, 90), COMPRESS)[5:], [[0, 3, 120, 30], [0, 1, 9, 3, 1]])
        self.assertEqual(ask(*begin, flight(9, 3, 90), best(3))[6], [0, 30, 10])

    def test_they_count_in_no_sum(self):
        self.assertEqual(
            last(slots(100, 10, 3), flight(1, 3, 0), flight(2, 3, 100), flight(3, 3, 101), cancel(1), cancel(3), RATION),
            [0, 10, 10],
        )
        self.assertEqual(last(slots(100, 10, 3), flight(1, 3, 0), cancel(1), RATION), [0, 0, 0])

    def test_they_stay_cancelled(self):
        self.assertEqual(ask(slots(100, 10, 1), flight(1, 3, 0), cancel(1), RATION, cancel(1), swap(1, 1))[4:], [[-9], [-9]])

    def test_they_can_be_the_one_that_finds_none(self):
        self.assertEqual(last(slots(100, 10, 1), flight(1, 3, 100), flight(2, 3, 101), cancel(2), RATION), [-7])

    def test_their_ready_time_counts_still(self):
        begin = [slots(100, 10, 2), flight(1, 3, 100), ready(1, 105), cancel(1), RATION]
        self.assertEqual(last(*begin, flight(2, 4, 100)), [0, 1, 100, 0])
        self.assertEqual(ask(*begin, flight(2, 4, 100), flight(3, 4, 100))[6], [-7])


class Answered(unittest.TestCase):
    def test_sum_and_greatest(self):
        self.assertEqual(
            last(slots(100, 10, 4), flight(1, 0, 80), flight(2, 0, 99), flight(3, 0, 101), RATION), [0, 20 + 11 + 19, 20]
        )

    def test_the_greatest_of_many(self):
        many = [flight(number, number, 0, 1000) for number in range(60)]
        self.assertEqual(
            last(slots(LAST_TIME - 59, 1, 60), *many, RATION), [0, 60 * (LAST_TIME - 59) + 59 * 60 // 2, LAST_TIME]
        )

    def test_no_slots_or_no_flights(self):
        self.assertEqual(ask(RATION, COMPRESS, best(0), RATION), [[0, 0, 0], [0, 0], [0, 0, 0], [0, 0, 0]])
        self.assertEqual(ask(slots(5, 1, 2), RATION, COMPRESS, best(0))[1:], [[0, 0, 0], [0, 0], [0, 0, 0]])
        self.assertEqual(ask(flight(1, 0, 0), RATION, COMPRESS)[1:], [[-7], [-3]])


class Owners(unittest.TestCase):
    def test_slots_that_were_taken_are_the_carriers(self):
        begin = [slots(100, 10, 3), flight(1, 3, 100), flight(2, 4, 100), RATION, cancel(1), cancel(2)]
        self.assertEqual(last(*begin, flight(5, 0, 100)), [0, 3, 120, 20])
        self.assertEqual(last(*begin[:5], ready(2, 111)), [0, 3, 120, 20])

    def test_the_others_are_nobodys_again(self):
        # Flight 8 leaves place 2 for place 3, and its carrier owns both until slots are given out anew.
        begin = [slots(100, 10, 3), flight(1, 3, 100), RATION, flight(8, 7, 105), ready(8, 115)]
        self.assertEqual(ask(*begin, flight(9, 7, 100))[3:], [[0, 2, 110, 5], [0, 3, 120, 15], [-7]])
        self.assertEqual(
            ask(*begin, RATION, flight(9, 7, 100))[5:], [[0, 15, 15], [0, 2, 110, 10]]
        )
        self.assertEqual(
            ask(*begin, ready(8, 105), RATION, flight(9, 7, 100))[6:], [[0, 5, 5], [0, 3, 120, 20]]
        )

    def test_anew_a_slot_goes_to_another_carrier(self):
        begin = [slots(100, 10, 3), flight(5, 3, 100), RATION, flight(1, 4, 100), RATION]
        self.assertEqual(ask(*begin, cancel(5), cancel(1))[3:], [[0, 2, 110, 10], [0, 10, 10], [0, 2, 110, 10], [0, 1, 100, 0]])
        # Place 1 is carrier 4's now and place 2 carrier 3's.
        more = [cancel(5), cancel(1), flight(6, 3, 100), slots(130, 10, 1), flight(7, 4, 100)]
        self.assertEqual(
            ask(*begin, *more, best(3), best(4))[7:], [[0, 3, 120, 20], [0, 4], [0, 4, 130, 30], [0, 20, 10], [0, 30, 0]]
        )


class Refused(unittest.TestCase):
    def test_too_few_slots(self):
        self.assertEqual(last(slots(100, 10, 1), flight(1, 0, 0), flight(2, 0, 0), RATION), [-7])
        self.assertEqual(last(flight(1, 0, 0), RATION), [-7])

    def test_too_early_slots(self):
        self.assertEqual(last(slots(100, 10, 3), flight(1, 0, 121), RATION), [-7])
        self.assertEqual(last(slots(100, 10, 3), flight(1, 0, 120), RATION), [0, 0, 0])

    def test_slots_have_not_been_given_out(self):
        self.assertEqual(
            ask(slots(100, 10, 1), flight(1, 0, 0), flight(2, 0, 0), RATION, COMPRESS, best(0), flight(3, 0, 0), cancel(1))[3:],
            [[-7], [-3], [-3], [0, 0, 0, 0], [0, 0, 0, 0]],
        )

    def test_what_was_given_out_before_stays(self):
        # Flight 1 moves to the slot that the cancelled flight 2 had, so that flight 2 finds none any more,
        # after flight 3 has found another slot than the one it has.
        begin = [
            slots(100, 10, 3), flight(1, 5, 100), flight(2, 5, 120), RATION, flight(3, 6, 90), cancel(2), ready(1, 115),
            RATION,
        ]
        self.assertEqual(ask(*begin)[3:], [[0, 0, 0], [0, 2, 110, 20], [0, 3, 120, 0], [0, 3, 120, 20], [-7]])
        self.assertEqual(ask(*begin, cancel(3), cancel(1))[8:], [[0, 2, 110, 20], [0, 3, 120, 20]])
        # Place 1 is carrier 5's still.
        self.assertEqual(ask(*begin, flight(9, 7, 0))[8:], [[-7]])
        self.assertEqual(ask(*begin, ready(1, 100), best(5))[8:], [[0, 3, 120, 20], [0, 20, 0]])
        self.assertEqual(ask(*begin, COMPRESS, COMPRESS)[8:], [[0, 1, 3, 2, 1], [0, 0]])
        # What is given out can be given out again once there is a slot for each.
        self.assertEqual(ask(*begin, slots(130, 10, 1), RATION)[8:], [[0, 4], [0, 10 + 20, 20]])


if __name__ == "__main__":
    unittest.main()
