"""Promise 11: release."""

import unittest

from tests.lines import (
    AsItWas, COMPRESS, FAR, OPEN, RATION, TABLE, ask, best, cancel, carrier, flight, last, ready, release, slot, slots,
)

# Places 1 and 3 are carrier 5's, place 2 carrier 6's, places 4 and 5 nobody's.
THREE = [slots(100, 10, 5), flight(1, 5, 90, 2), flight(2, 6, 90, 3), flight(3, 5, 90, 4), RATION]


class Release(unittest.TestCase):
    def test_nobody_owns_it_any_more(self):
        self.assertEqual(
            ask(*THREE, cancel(1), TABLE, carrier(5), release(1), TABLE, carrier(5))[6:],
            [
                [0, 5, 100, 6, 0, 110, 7, 3, 120, 6, 4, 130, 0, 0, 140, 0, 0], [0, 1, 30, 30, 120, 2],
                [0],
                [0, 5, 100, 0, 0, 110, 7, 3, 120, 6, 4, 130, 0, 0, 140, 0, 0], [0, 1, 30, 30, 120, 1],
            ],
        )

    def test_it_stays_open(self):
        self.assertEqual(ask(*THREE, cancel(3), release(3), OPEN, slot(3))[7:], [[0, 3, 3, 4, 5], [0, 1, 0, 0, 0]])

    def test_a_new_flight_can_take_it(self):
        for number in (5, 6, 7):
            self.assertEqual(last(*THREE, cancel(1), flight(8, number, 95)), [0, 4, 130, 35])
            self.assertEqual(
                ask(*THREE, cancel(1), release(1), flight(8, number, 95), TABLE)[7:],
                [[0, 1, 100, 5], [0, 5, 100, number + 1, 9, 110, 7, 3, 120, 6, 4, 130, 0, 0, 140, 0, 0]],
            )

    def test_a_flight_that_is_ready_later_can_take_it(self):
        self.assertEqual(last(*THREE, cancel(3), ready(2, 115)), [0, 4, 130, 40])
        self.assertEqual(
            ask(*THREE, cancel(3), release(3), ready(2, 115), TABLE)[7:],
            [[0, 3, 120, 30], [0, 5, 100, 6, 2, 110, 7, 0, 120, 7, 3, 130, 0, 0, 140, 0, 0]],
        )
        # The slot that flight 2 left is its carrier's and open, so that one can be released too.
        self.assertEqual(
            ask(*THREE, cancel(3), release(3), ready(2, 115), release(2), TABLE)[8:],
            [[0], [0, 5, 100, 6, 2, 110, 0, 0, 120, 7, 3, 130, 0, 0, 140, 0, 0]],
        )

    def test_compress_passes_it_to_the_earliest(self):
        # While it's carrier 5's its flight 3 comes, else flight 2, and what that one leaves is nobody's.
        self.assertEqual(
            ask(*THREE, cancel(1), COMPRESS, TABLE)[6:],
            [[0, 1, 3, 3, 1], [0, 5, 100, 6, 4, 110, 7, 3, 120, 6, 0, 130, 0, 0, 140, 0, 0]],
        )
        self.assertEqual(
            ask(*THREE, cancel(1), release(1), COMPRESS, TABLE)[7:],
            [[0, 2, 2, 2, 1, 3, 3, 2], [0, 5, 100, 7, 3, 110, 6, 4, 120, 0, 0, 130, 0, 0, 140, 0, 0]],
        )

    def test_best_leaves_it_alone(self):
        self.assertEqual(ask(*THREE, cancel(1), best(5), slot(3))[6:], [[0, 120, 40], [0, 0, 1, 100, 10]])
        self.assertEqual(
            ask(*THREE, cancel(1), release(1), best(5), slot(3), TABLE)[7:],
            [
                [0, 120, 120], [0, 0, 3, 120, 30],
                [0, 5, 100, 0, 0, 110, 7, 3, 120, 6, 4, 130, 0, 0, 140, 0, 0],
            ],
        )

    def test_ration_gives_it_out_anew(self):
        begin = [*THREE, cancel(1), release(1), RATION]
        self.assertEqual(last(*begin, TABLE), [0, 5, 100, 6, 0, 110, 7, 3, 120, 6, 4, 130, 0, 0, 140, 0, 0])
        self.assertEqual(last(*begin, release(1)), [0])

    def test_two_flights_that_had_the_same_slot_are_one_too_many_to_ration(self):
        begin = [slots(100, 10, 2), flight(1, 0, 90), flight(2, 1, 90), RATION, cancel(1), release(1), flight(3, 2, 90)]
        self.assertEqual(ask(*begin, RATION, TABLE)[6:], [[0, 1, 100, 10], [-7], [0, 2, 100, 3, 4, 110, 2, 3]])

    def test_one_that_best_left_open(self):
        begin = [*THREE, cancel(1), best(5)]
        self.assertEqual(ask(*begin, release(3), flight(8, 7, 111))[7:], [[0], [0, 3, 120, 9]])

    def test_all_of_120(self):
        many = [flight(number, number, 0) for number in range(60)]
        line = [slots(0, 1, 120), *many, RATION, *[cancel(number) for number in range(60)]]
        gone = [release(place) for place in range(60, 0, -1)]
        got = ask(*line, *gone, TABLE, release(60), release(61), release(120))
        self.assertEqual(got[122:182], [[0]] * 60)
        self.assertEqual(got[182], [0, 120] + [part for time in range(120) for part in (time, 0, 0)])
        self.assertEqual(got[183:], [[-5]] * 3)


class Refused(AsItWas, unittest.TestCase):
    def test_no_slot_at_this_place(self):
        self.refused(-5, [], release(1))
        self.refused(-5, [], release(120))
        self.refused(-5, THREE, release(6))
        self.refused(-5, [*THREE, cancel(1), cancel(2), cancel(3)], release(120))

    def test_nobody_owns_it(self):
        self.refused(-5, THREE, release(4))
        self.refused(-5, THREE, release(5))
        self.refused(-5, [*THREE, cancel(1), release(1)], release(1))
        self.refused(-5, THREE[:-1], release(1))

    def test_it_is_not_open(self):
        for place in (1, 2, 3):
            self.refused(-9, THREE, release(place))
        self.refused(-9, [*THREE, cancel(1), COMPRESS], release(1))

    def test_the_last_place(self):
        line = [slots(0, 1, 119), slots(200, 1, 1), flight(1, 3, 200), RATION]
        self.refused(-9, line, release(120))
        self.refused(-5, line, release(119))
        self.assertEqual(last(*line, cancel(1), release(120)), [0])

    def test_ranges(self):
        for place in (0, 121, -1, -FAR, FAR):
            self.refused(-2, [], release(place))
            self.refused(-2, [*THREE, cancel(1)], release(place))


if __name__ == "__main__":
    unittest.main()
