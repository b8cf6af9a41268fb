"""Promise 12: slot."""

import unittest

from tests.lines import AsItWas, COMPRESS, FAR, LAST_TIME, RATION, ask, cancel, exempt, flight, last, ready, slot, slots, swap


class SlotOfAFlight(AsItWas, unittest.TestCase):
    def test_none_while_slots_have_not_been_given_out(self):
        self.assertEqual(last(flight(7, 3, 100), slot(7)), [0, 0, 0, 0, 0])
        self.assertEqual(last(slots(100, 10, 3), flight(7, 3, 100), ready(7, 110), exempt(7, 1), slot(7)), [0, 0, 0, 0, 0])

    def test_place_time_and_how_late(self):
        begin = [slots(100, 10, 3), flight(7, 3, 93), flight(2, 3, 93), flight(4, 1, 120), RATION]
        self.assertEqual(
            ask(*begin, slot(7), slot(2), slot(4))[5:], [[0, 0, 2, 110, 17], [0, 0, 1, 100, 7], [0, 0, 3, 120, 0]]
        )

    def test_late_is_counted_from_the_planned_time(self):
        self.assertEqual(last(slots(100, 10, 3), flight(7, 3, 93), ready(7, 105), RATION, slot(7)), [0, 0, 2, 110, 17])

    def test_a_flight_that_came_later(self):
        self.assertEqual(last(slots(100, 10, 3), RATION, flight(7, 3, 101), slot(7)), [0, 0, 2, 110, 9])

    def test_cancelled(self):
        self.assertEqual(last(flight(7, 3, 100), cancel(7), slot(7)), [0, 1, 0, 0, 0])
        self.assertEqual(
            ask(slots(100, 10, 3), flight(7, 3, 90), RATION, cancel(7), slot(7), RATION, slot(7), COMPRESS, slot(7))[4::2],
            [[0, 1, 0, 0, 0]] * 3,
        )

    def test_behind_each_call_that_moves_it(self):
        begin = [slots(100, 10, 4), flight(1, 3, 90), flight(2, 3, 90), flight(3, 4, 90), RATION]
        self.assertEqual(
            ask(*begin, swap(1, 2), slot(1), cancel(2), COMPRESS, slot(1), ready(1, 125), slot(1), slot(3))[6:],
            [
                [0, 0, 2, 110, 20], [0, 1, 100, 10], [0, 2, 1, 2, 1, 3, 3, 2], [0, 0, 1, 100, 10], [0, 4, 130, 40],
                [0, 0, 4, 130, 40], [0, 0, 2, 110, 20],
            ],
        )

    def test_the_latest_that_can_be(self):
        self.assertEqual(last(slots(LAST_TIME, 1, 1), flight(0, 0, 0), RATION, slot(0)), [0, 0, 1, LAST_TIME, LAST_TIME])

    def test_changes_nothing(self):
        begin = [slots(100, 10, 4), flight(1, 3, 90), flight(2, 3, 90), flight(3, 4, 90), RATION, cancel(2)]
        self.as_it_was([0, 0, 3, 120, 30], begin, slot(3))


class Refused(AsItWas, unittest.TestCase):
    def test_no_such_flight(self):
        self.refused(-5, [], slot(1))
        self.refused(-5, [slots(100, 10, 4), flight(1, 3, 90), RATION], slot(2))
        # One that was refused is not there either.
        self.refused(-5, [RATION, flight(1, 3, 90)], slot(1))

    def test_ranges(self):
        for number in (-1, 1000000, -FAR, FAR):
            self.refused(-2, [], slot(number))
            self.refused(-2, [flight(1, 3, 90)], slot(number))
        for number in (0, 999999):
            self.assertEqual(ask(slot(number), flight(number, 0, 5), slot(number)), [[-5], [0, 0, 0, 0], [0, 0, 0, 0, 0]])


if __name__ == "__main__":
    unittest.main()
