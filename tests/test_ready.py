"""Promise 4: ready."""

import unittest

from tests.lines import COMPRESS, FAR, LAST_TIME, RATION, ask, best, cancel, flight, last, ready, slots, swap


class WithoutMoving(unittest.TestCase):
    def test_a_flight_without_a_slot_stays_without(self):
        self.assertEqual(
            ask(slots(100, 10, 3), flight(1, 0, 100), ready(1, 115), RATION, cancel(1)),
            [[0, 3], [0, 0, 0, 0], [0, 0, 0, 0], [0, 20, 20], [0, 3, 120, 20]],
        )

    def test_a_slot_at_that_very_time_may_be_kept(self):
        self.assertEqual(
            ask(slots(100, 10, 3), flight(1, 0, 95), RATION, ready(1, 100), ready(1, 99), ready(1, 95))[2:],
            [[0, 5, 5], [0, 1, 100, 5], [0, 1, 100, 5], [0, 1, 100, 5]],
        )

    def test_the_time_lasts(self):
        # Ready at 115 it may not come to place 1 or 2; ready at 100 again it may.
        begin = [slots(100, 10, 3), flight(1, 0, 100), RATION, ready(1, 115)]
        self.assertEqual(ask(*begin, COMPRESS, RATION)[3:], [[0, 3, 120, 20], [0, 0], [0, 20, 20]])
        self.assertEqual(ask(*begin, ready(1, 100), COMPRESS)[3:], [[0, 3, 120, 20], [0, 3, 120, 20], [0, 1, 1, 3, 1]])
        self.assertEqual(ask(*begin, ready(1, 110), COMPRESS)[3:], [[0, 3, 120, 20], [0, 3, 120, 20], [0, 1, 1, 3, 2]])
        self.assertEqual(ask(*begin, ready(1, 111), COMPRESS)[3:], [[0, 3, 120, 20], [0, 3, 120, 20], [0, 0]])

    def test_the_time_lasts_where_the_slot_is_kept(self):
        begin = [slots(100, 10, 3), flight(1, 0, 100), flight(2, 0, 100), RATION]
        self.assertEqual(ask(*begin, ready(2, 101), swap(1, 2))[4:], [[0, 2, 110, 10], [-11]])
        self.assertEqual(ask(*begin, ready(2, 100), swap(1, 2))[4:], [[0, 2, 110, 10], [0, 10, 10]])


class Moving(unittest.TestCase):
    def test_takes_the_first_that_it_may_have(self):
        begin = [slots(100, 10, 5), flight(1, 0, 100), RATION]
        self.assertEqual(last(*begin, ready(1, 101)), [0, 2, 110, 10])
        self.assertEqual(last(*begin, ready(1, 110)), [0, 2, 110, 10])
        self.assertEqual(last(*begin, ready(1, 111)), [0, 3, 120, 20])
        self.assertEqual(last(*begin, ready(1, 140)), [0, 5, 140, 40])

    def test_leaves_what_another_flight_has(self):
        begin = [slots(100, 10, 4), flight(1, 0, 100), flight(2, 0, 110), flight(3, 1, 120), RATION]
        self.assertEqual(last(*begin, ready(1, 101)), [0, 4, 130, 30])

    def test_of_nobody_or_its_own_carrier_and_not_of_another(self):
        # Places 2 and 3 are open: 2 is owned by carrier 1, 3 by carrier 0, 4 by nobody.
        begin = [
            slots(100, 10, 4), flight(1, 0, 100), flight(2, 1, 110), flight(3, 0, 120), RATION, cancel(2), cancel(3),
        ]
        self.assertEqual(last(*begin, ready(1, 101)), [0, 3, 120, 20])
        self.assertEqual(last(*begin, ready(1, 121)), [0, 4, 130, 30])

    def test_one_of_nobody_before_its_own(self):
        # Place 2 is owned by nobody, place 3 by carrier 0.
        begin = [slots(100, 10, 3), flight(1, 0, 100), flight(3, 0, 120), RATION, cancel(3)]
        self.assertEqual(last(*begin, ready(1, 101)), [0, 2, 110, 10])

    def test_its_carrier_owns_the_new_slot(self):
        begin = [slots(100, 10, 4), flight(1, 5, 100), flight(2, 5, 90), RATION, ready(2, 115), cancel(2)]
        self.assertEqual(last(*begin, flight(3, 6, 120)), [0, 4, 130, 10])
        self.assertEqual(last(*begin, flight(3, 5, 120)), [0, 4, 130, 10])
        self.assertEqual(last(*begin, ready(1, 115)), [0, 3, 120, 20])

    def test_the_slot_it_had_is_open_and_keeps_its_owner(self):
        begin = [slots(100, 10, 4), flight(1, 5, 100), flight(2, 5, 100, 9), RATION, ready(1, 130)]
        # Nobody else's flight can take place 1, and a new one of the carrier can't either.
        self.assertEqual(last(*begin, flight(3, 6, 100)), [0, 3, 120, 20])
        self.assertEqual(last(*begin, flight(3, 5, 100)), [0, 3, 120, 20])
        # The carrier's other flight can.
        self.assertEqual(last(*begin, best(5)), [0, 9 * 10 + 30, 30])
        self.assertEqual(last(*begin, COMPRESS), [0, 1, 2, 2, 1])

    def test_late_is_counted_from_the_planned_time(self):
        self.assertEqual(last(slots(100, 10, 4), flight(1, 5, 93), RATION, ready(1, 118)), [0, 3, 120, 27])

    def test_several_moves_of_one_flight(self):
        self.assertEqual(
            ask(slots(100, 10, 4), flight(1, 5, 100), RATION, ready(1, 105), ready(1, 125), ready(1, 131), cancel(1))[3:],
            [[0, 2, 110, 10], [0, 4, 130, 30], [-7], [0, 4, 130, 30]],
        )


class Refused(unittest.TestCase):
    def test_no_such_flight(self):
        self.assertEqual(ask(ready(1, 0), flight(2, 0, 0), ready(1, 0)), [[-5], [0, 0, 0, 0], [-5]])

    def test_cancelled(self):
        self.assertEqual(last(flight(1, 0, 10), cancel(1), ready(1, 10)), [-9])
        self.assertEqual(last(slots(10, 1, 1), flight(1, 0, 10), RATION, cancel(1), ready(1, 11)), [-9])

    def test_before_the_planned_time(self):
        self.assertEqual(
            ask(flight(1, 0, 10), ready(1, 9), ready(1, 10), ready(1, 20), ready(1, 9), ready(1, 15))[1:],
            [[-6], [0, 0, 0, 0], [0, 0, 0, 0], [-6], [0, 0, 0, 0]],
        )
        self.assertEqual(last(slots(10, 1, 1), flight(1, 0, 10), RATION, ready(1, 9)), [-6])

    def test_cancelled_is_told_before_a_wrong_time(self):
        self.assertEqual(last(flight(1, 0, 10), cancel(1), ready(1, 9)), [-9])

    def test_there_is_no_slot_for_it(self):
        self.assertEqual(last(slots(10, 1, 3), flight(1, 0, 10), RATION, ready(1, 13)), [-7])
        self.assertEqual(last(slots(10, 1, 2), flight(1, 0, 10), flight(2, 0, 11), RATION, ready(1, 11)), [-7])
        # Place 2 is open, but another carrier's.
        self.assertEqual(
            last(slots(10, 1, 2), flight(1, 0, 10), flight(2, 1, 11), RATION, cancel(2), ready(1, 11)), [-7]
        )

    def test_nothing_changes_where_there_is_no_slot(self):
        begin = [slots(10, 10, 2), flight(1, 0, 5, 2), flight(2, 0, 6, 3), RATION, ready(1, 21)]
        self.assertEqual(last(*begin[:-1], ready(1, 20)), [-7])
        self.assertEqual(ask(*begin, swap(1, 2), RATION)[4:], [[-7], [0, 2 * 5 + 3 * 14, 2 * 15 + 3 * 4], [0, 19, 14]])
        self.assertEqual(ask(*begin, cancel(1))[4:], [[-7], [0, 1, 10, 5]])

    def test_a_wrong_time_changes_nothing(self):
        self.assertEqual(
            ask(slots(10, 10, 2), flight(1, 0, 10), ready(1, 15), ready(1, 9), RATION)[2:], [[0, 0, 0, 0], [-6], [0, 10, 10]]
        )

    def test_ranges(self):
        self.assertEqual(last(flight(0, 0, 0), ready(0, 0)), [0, 0, 0, 0])
        self.assertEqual(last(flight(999999, 0, 0), ready(999999, LAST_TIME)), [0, 0, 0, 0])
        for number in (-1, 1000000, -FAR, FAR):
            self.assertEqual(last(ready(number, 0)), [-2])
        for time in (-1, LAST_TIME + 1, -FAR, FAR):
            self.assertEqual(last(flight(1, 0, 0), ready(1, time)), [-2])
            self.assertEqual(last(ready(1, time)), [-2])
            self.assertEqual(last(flight(1, 0, 0), cancel(1), ready(1, time)), [-2])


if __name__ == "__main__":
    unittest.main()
