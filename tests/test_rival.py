"""Promise 17: rival."""

import unittest

from slothouse.arrivals import answers
from tests.lines import (
    AsItWas, COMPRESS, FAR, LAST_TIME, RATION, TOTAL, ask, cancel, flight, joined, last, queue, ready, release, rival, slots,
    split_answers,
)

# Handed in with falling ids; flight 1 may have every slot, flight 2 from place 2 on, flight 3 from place 3 on.
THREE = [slots(100, 10, 5), flight(3, 5, 120), flight(2, 6, 103), flight(1, 5, 90)]


class Rival(AsItWas, unittest.TestCase):
    def test_a_right_one(self):
        self.assertEqual(last(*THREE, rival(1, 2, 3)), [0, 1, 10 + 7 + 0, 10])
        self.assertEqual(last(*THREE, rival(5, 2, 3)), [0, 1, 50 + 7 + 0, 50])
        self.assertEqual(last(*THREE, rival(1, 3, 5)), [0, 1, 10 + 17 + 20, 20])
        self.assertEqual(last(*THREE, rival(4, 3, 5)), [0, 1, 40 + 17 + 20, 40])

    def test_the_lower_id_is_named_first(self):
        begin = [slots(100, 10, 2), flight(7, 5, 100), flight(4, 6, 110)]
        self.assertEqual(last(*begin, rival(2, 1)), [0, 1, 0, 0])
        self.assertEqual(last(*begin, rival(1, 2)), [0, 0, 0, 0])

    def test_a_place_twice(self):
        for row in ((3, 3, 3), (2, 2, 3), (3, 2, 3), (1, 4, 4), (5, 5, 4)):
            self.assertEqual(last(*THREE, rival(*row)), [0, 0, 0, 0])

    def test_a_place_that_a_flight_may_not_have(self):
        for row in ((2, 1, 3), (3, 1, 4), (1, 3, 2), (3, 2, 1), (4, 3, 2)):
            self.assertEqual(last(*THREE, rival(*row)), [0, 0, 0, 0])
        begin = [slots(100, 10, 2), flight(7, 5, 110)]
        self.assertEqual(ask(*begin, rival(1), rival(2))[2:], [[0, 0, 0, 0], [0, 1, 0, 0]])
        self.assertEqual(last(slots(100, 10, 2), flight(7, 5, 111), rival(2)), [0, 0, 0, 0])

    def test_both_faults_at_once(self):
        self.assertEqual(last(*THREE, rival(1, 1, 1)), [0, 0, 0, 0])

    def test_by_when_it_is_ready_and_late_by_the_planned_time(self):
        begin = [*THREE, ready(1, 115)]
        self.assertEqual(ask(*begin, rival(1, 2, 3), rival(4, 2, 3))[5:], [[0, 0, 0, 0], [0, 1, 47, 40]])

    def test_whoever_has_or_owns_the_slots(self):
        begin = [*THREE, RATION]
        self.assertEqual(ask(*begin, rival(1, 2, 3), rival(4, 5, 3))[5:], [[0, 1, 17, 10], [0, 1, 40 + 37, 40]])
        self.assertEqual(last(*begin, cancel(2), rival(2, 3)), [0, 1, 20, 20])
        self.assertEqual(last(*begin, cancel(2), release(2), rival(2, 3)), [0, 1, 20, 20])

    def test_an_empty_row(self):
        self.assertEqual(ask(rival()), [[0, 1, 0, 0]])
        self.assertEqual(last(slots(1, 1, 5), RATION, rival()), [0, 1, 0, 0])
        self.assertEqual(last(flight(1, 5, 90), cancel(1), rival()), [0, 1, 0, 0])
        self.assertEqual(answers([16, 0, 16, 0, 17]), [4, 0, 1, 0, 0, 4, 0, 1, 0, 0, 2, 0, 0])

    def test_a_row_of_60_numbers(self):
        many = [flight(number, 0, number) for number in range(59, -1, -1)]
        begin = [slots(0, 1, 120), *many]
        self.assertEqual(last(*begin, rival(*range(1, 61))), [0, 1, 0, 0])
        self.assertEqual(last(*begin, rival(*range(61, 121))), [0, 1, 60 * 60, 60])
        self.assertEqual(last(*begin, rival(*range(120, 60, -1))), [0, 1, 60 * 60, 119])
        self.assertEqual(last(*begin, rival(*range(1, 60), 59)), [0, 0, 0, 0])
        self.assertEqual(last(*begin, rival(*range(60, 0, -1))), [0, 0, 0, 0])

    def test_the_greatest_sum(self):
        many = [flight(number, 0, 0, 1000) for number in range(60)]
        late = [LAST_TIME - 59 + number for number in range(60)]
        begin = [slots(LAST_TIME - 59, 1, 60), *many]
        self.assertEqual(last(*begin, rival(*range(60, 0, -1))), [0, 1, sum(late), LAST_TIME])

    def test_what_stands_behind_a_row_is_read(self):
        self.assertEqual(
            ask(*THREE, rival(1, 2, 3), rival(), rival(*range(1, 101)), queue(3, 2, 1), TOTAL)[4:],
            [[0, 1, 17, 10], [-13], [-2], [0, 3, 3, 2, 1], [0, 3, 0, 0]],
        )

    def test_changes_nothing(self):
        for begin in (THREE, [*THREE, RATION], [*THREE, RATION, flight(4, 9, 90), cancel(4)]):
            for row, expected in (((4, 2, 3), [0, 1, 47, 40]), ((1, 1, 1), [0, 0, 0, 0])):
                self.as_it_was(expected, begin, rival(*row))
                self.assertEqual(last(*begin, rival(*row), RATION), last(*begin, RATION))
                self.assertEqual(last(*begin, rival(*row), COMPRESS), last(*begin, COMPRESS))

    def test_the_row_is_as_it_was(self):
        calls = joined([*THREE, rival(4, 2, 3), rival(3, 2, 1)])
        copy = list(calls)
        self.assertEqual(split_answers(answers(calls))[4:], [[0, 1, 47, 40], [0, 0, 0, 0]])
        self.assertEqual(calls, copy)


class Refused(AsItWas, unittest.TestCase):
    def test_fewer_places_than_living_flights(self):
        for begin in (THREE, [*THREE, RATION]):
            for row in ((), (1,), (1, 2)):
                self.refused(-13, begin, rival(*row))

    def test_more_places_than_living_flights(self):
        self.refused(-13, [], rival(1))
        self.refused(-13, [slots(1, 1, 1)], rival(1))
        for begin in (THREE, [*THREE, RATION]):
            self.refused(-13, begin, rival(1, 2, 3, 4))
            self.refused(-13, begin, rival(1, 2, 3, 3))
            self.refused(-13, begin, rival(*range(1, 61)))

    def test_cancelled_flights_are_named_no_place(self):
        for begin in ([*THREE, cancel(2)], [*THREE, RATION, cancel(2)]):
            self.refused(-13, begin, rival(1, 2, 3))
            self.refused(-13, begin, rival(1))
            self.assertEqual(last(*begin, rival(1, 3)), [0, 1, 10, 10])

    def test_a_place_beyond_the_last_slot(self):
        self.assertEqual(last(*THREE, rival(1, 2, 5)), [0, 1, 10 + 7 + 20, 20])
        for row in ((1, 2, 6), (6, 2, 3), (1, 6, 3), (120, 2, 3), (6, 6, 6)):
            self.refused(-13, THREE, rival(*row))
        self.refused(-13, [flight(1, 5, 90)], rival(1))
        # Told ahead of a place that comes twice, or that a flight may not have.
        self.refused(-13, THREE, rival(1, 1, 6))
        self.refused(-13, THREE, rival(6, 1, 1))

    def test_more_than_60_numbers(self):
        full = [slots(0, 1, 120), *[flight(number, 0, 0) for number in range(60)]]
        for begin in ([], THREE, full):
            for count in (61, 99, 100):
                self.refused(-2, begin, rival(*range(1, count + 1)))
                self.refused(-2, begin, rival(*[1] * count))
                self.refused(-2, begin, rival(*[0] * count))

    def test_ranges(self):
        for place in (0, 121, -1, -FAR, FAR):
            for row in ((place,), (place, 2, 3), (1, place, 3), (1, 2, place), (1, 2, 3, place)):
                self.refused(-2, THREE, rival(*row))
                self.refused(-2, [], rival(*row))
            self.refused(-2, [], rival(*range(1, 60), place))
        self.assertEqual(last(slots(5, 1, 120), flight(0, 1, 5), flight(1, 1, 5), rival(120, 1)), [0, 1, 119, 119])


if __name__ == "__main__":
    unittest.main()
