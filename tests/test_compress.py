"""Promise 7: compress."""

import unittest

from tests.lines import COMPRESS, RATION, ask, best, cancel, flight, last, ready, slots


class Nothing(unittest.TestCase):
    def test_slots_have_not_been_given_out(self):
        self.assertEqual(ask(COMPRESS, slots(10, 1, 1), COMPRESS, flight(1, 0, 0), COMPRESS), [
            [-3], [0, 1], [-3], [0, 0, 0, 0], [-3],
        ])

    def test_the_house_is_as_it_was_after_a_refusal(self):
        self.assertEqual(ask(COMPRESS, COMPRESS, flight(1, 0, 0), cancel(1))[1:], [[-3], [0, 0, 0, 0], [0, 0, 0, 0]])

    def test_no_slot_is_open(self):
        self.assertEqual(last(slots(10, 1, 2), flight(1, 0, 0), flight(2, 1, 0), RATION, COMPRESS), [0, 0])

    def test_no_flight_has_a_later_slot(self):
        self.assertEqual(last(slots(10, 1, 3), flight(1, 0, 0), RATION, COMPRESS), [0, 0])
        self.assertEqual(last(slots(10, 1, 3), flight(1, 0, 0), flight(2, 0, 0), RATION, cancel(2), COMPRESS), [0, 0])

    def test_no_flight_that_may_have_it(self):
        begin = [slots(10, 1, 2), flight(1, 0, 10), flight(2, 0, 11), RATION, cancel(1)]
        self.assertEqual(ask(*begin, COMPRESS, cancel(2))[5:], [[0, 0], [0, 2, 11, 0]])

    def test_at_the_very_time_it_may_have_it(self):
        begin = [slots(10, 2, 2), flight(1, 0, 10), flight(2, 0, 10), RATION, cancel(1)]
        self.assertEqual(ask(*begin, COMPRESS, cancel(2))[5:], [[0, 1, 2, 2, 1], [0, 1, 10, 0]])
        self.assertEqual(ask(*begin, ready(2, 11), COMPRESS, cancel(2))[5:], [[0, 2, 12, 2], [0, 0], [0, 2, 12, 2]])

    def test_cancelled_flights_do_not_come(self):
        begin = [slots(10, 1, 2), flight(1, 0, 10), flight(2, 0, 10), RATION, cancel(1), cancel(2)]
        self.assertEqual(last(*begin, COMPRESS), [0, 0])


class WhoComes(unittest.TestCase):
    def test_one_after_the_other(self):
        begin = [
            slots(100, 10, 5), flight(1, 1, 100), flight(2, 2, 100), flight(3, 3, 100), flight(4, 4, 100), RATION,
            cancel(1), COMPRESS,
        ]
        self.assertEqual(last(*begin), [0, 3, 2, 2, 1, 3, 3, 2, 4, 4, 3])
        self.assertEqual(
            ask(*begin, COMPRESS, cancel(2), cancel(3), cancel(4))[8:],
            [[0, 0], [0, 1, 100, 0], [0, 2, 110, 10], [0, 3, 120, 20]],
        )
        # Place 4 has come to the carrier of the cancelled flight, place 5 is nobody's still.
        self.assertEqual(
            ask(*begin, flight(5, 9, 100), flight(6, 9, 100), COMPRESS)[8:], [[0, 5, 140, 40], [-7], [0, 1, 5, 5, 4]]
        )
        self.assertEqual(ask(*begin, flight(5, 1, 100), best(1))[8:], [[0, 5, 140, 40], [0, 40, 30]])

    def test_the_owners_own_before_an_earlier_one(self):
        begin = [
            slots(100, 10, 4), flight(1, 7, 100), flight(2, 8, 100), flight(3, 7, 100), flight(4, 9, 100), RATION,
            cancel(1),
        ]
        self.assertEqual(
            ask(*begin, COMPRESS, cancel(2), cancel(3), cancel(4))[7:],
            [[0, 2, 3, 3, 1, 4, 4, 3], [0, 2, 110, 10], [0, 1, 100, 0], [0, 3, 120, 20]],
        )

    def test_of_the_owners_own_the_one_with_the_earliest_slot(self):
        # By id, weight and the order in which they came flight 4 would be first.
        begin = [
            slots(100, 10, 4), flight(1, 7, 90), flight(4, 7, 99, 9), flight(9, 7, 92, 1), flight(2, 8, 91), RATION,
            cancel(1),
        ]
        self.assertEqual(last(*begin, COMPRESS), [0, 2, 9, 3, 1, 4, 4, 3])

    def test_else_of_all_the_one_with_the_earliest_slot(self):
        begin = [
            slots(100, 10, 4), flight(1, 7, 90), flight(4, 6, 99, 9), flight(9, 5, 92, 1), flight(2, 8, 93), RATION,
            cancel(1),
        ]
        self.assertEqual(last(*begin, COMPRESS), [0, 3, 9, 2, 1, 2, 3, 2, 4, 4, 3])

    def test_those_that_may_not_have_it_are_passed_by(self):
        # Of the flights behind place 1, neither the nearest nor the owner's own is ready then.
        begin = [
            slots(100, 10, 4), flight(1, 7, 90), flight(2, 8, 91), flight(3, 9, 92), flight(4, 7, 93),
            ready(2, 105), ready(4, 105), RATION, cancel(1),
        ]
        self.assertEqual(
            ask(*begin, COMPRESS, cancel(2), cancel(3), cancel(4))[9:],
            [[0, 2, 3, 3, 1, 4, 4, 3], [0, 2, 110, 19], [0, 1, 100, 8], [0, 3, 120, 27]],
        )

    def test_a_slot_left_behind_is_the_old_owners(self):
        # Flight 2 leaves place 2 to carrier 7, whose flight 4 may have place 2 but not place 1:
        # it comes before flight 3, though that has an earlier slot.
        begin = [
            slots(100, 10, 4), flight(1, 7, 90), flight(2, 8, 91), flight(3, 9, 92), flight(4, 7, 105), RATION, cancel(1),
        ]
        self.assertEqual(
            ask(*begin, COMPRESS, cancel(3), cancel(4))[7:], [[0, 2, 2, 2, 1, 4, 4, 2], [0, 3, 120, 28], [0, 2, 110, 5]]
        )


class Owners(unittest.TestCase):
    def test_the_two_owners_change_places(self):
        begin = [slots(100, 10, 3), flight(1, 7, 100), flight(2, 8, 100), RATION, cancel(1), COMPRESS]
        self.assertEqual(last(*begin), [0, 1, 2, 2, 1])
        # Place 1 is carrier 8's, place 2 carrier 7's, place 3 nobody's.
        self.assertEqual(ask(*begin, flight(3, 7, 100), best(7))[6:], [[0, 3, 120, 20], [0, 20, 10]])
        self.assertEqual(ask(*begin, flight(3, 8, 100), best(8))[6:], [[0, 3, 120, 20], [0, 20, 20]])
        self.assertEqual(ask(*begin, ready(2, 105))[6:], [[0, 3, 120, 20]])
        self.assertEqual(
            ask(*begin, cancel(2), flight(3, 8, 100), best(8))[6:], [[0, 1, 100, 0], [0, 3, 120, 20], [0, 20, 0]]
        )

    def test_nobodys_slot_leaves_one_to_nobody(self):
        # Carrier 0 is a carrier too.
        begin = [slots(100, 10, 3), flight(1, 0, 100), ready(1, 115), RATION, ready(1, 100), COMPRESS]
        self.assertEqual(last(*begin), [0, 1, 1, 3, 1])
        self.assertEqual(
            ask(*begin, flight(2, 4, 111), flight(3, 4, 0), cancel(1), flight(4, 4, 100))[6:],
            [[0, 3, 120, 9], [0, 2, 110, 110], [0, 1, 100, 0], [-7]],
        )

    def test_to_nobodys_slot_the_earliest_of_all_comes(self):
        begin = [
            slots(100, 10, 4), flight(1, 0, 100), flight(2, 3, 100), flight(3, 3, 100), ready(1, 110), ready(2, 110),
            ready(3, 110), RATION, ready(1, 100), ready(2, 100), ready(3, 100),
        ]
        self.assertEqual(last(*begin, COMPRESS), [0, 3, 1, 2, 1, 2, 3, 2, 3, 4, 3])
        self.assertEqual(ask(*begin, COMPRESS, flight(4, 1, 0))[12:], [[0, 4, 130, 130]])

    def test_its_own_carriers_slot_stays_its_carriers(self):
        begin = [slots(100, 10, 3), flight(1, 6, 100), flight(2, 6, 100), RATION, cancel(1), COMPRESS]
        self.assertEqual(last(*begin), [0, 1, 2, 2, 1])
        self.assertEqual(ask(*begin, flight(3, 5, 0))[6:], [[0, 3, 120, 120]])
        self.assertEqual(ask(*begin, ready(2, 105))[6:], [[0, 2, 110, 10]])


class Many(unittest.TestCase):
    def test_60_flights_move(self):
        many = [flight(number, number, 0) for number in range(60)]
        got = last(slots(0, 1, 120), *many, RATION, cancel(0), COMPRESS)
        self.assertEqual(got[:2], [0, 59])
        self.assertEqual(got[2:], [part for number in range(1, 60) for part in (number, number + 1, number)])


if __name__ == "__main__":
    unittest.main()
