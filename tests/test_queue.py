"""Promise 16: queue."""

import itertools
import unittest

from slothouse.arrivals import answers
from tests.lines import (
    AsItWas, FAR, RATION, TABLE, ask, cancel, exempt, flight, joined, last, queue, ready, release, slots, split_answers,
)

# Flight 1 may have every slot, flight 2 from place 2 on, flight 3 from place 3 on.
THREE = [slots(100, 10, 4), flight(1, 5, 90), flight(2, 6, 101), flight(3, 5, 120)]


class Queue(AsItWas, unittest.TestCase):
    def test_the_places_in_the_rows_order(self):
        begin = [slots(100, 10, 4), flight(1, 5, 90), flight(2, 6, 90), flight(3, 5, 90)]
        for row in itertools.permutations((1, 2, 3)):
            self.assertEqual(last(*begin, queue(*row)), [0, 3, 1, 2, 3])

    def test_each_takes_the_first_that_it_may_have(self):
        self.assertEqual(last(*THREE, queue(1, 2, 3)), [0, 3, 1, 2, 3])
        self.assertEqual(last(*THREE, queue(3, 2, 1)), [0, 3, 3, 2, 1])
        self.assertEqual(last(*THREE, queue(2, 3, 1)), [0, 3, 2, 3, 1])
        begin = [slots(100, 10, 4), flight(1, 5, 101), flight(2, 6, 105), flight(3, 5, 90)]
        self.assertEqual(last(*begin, queue(2, 1, 3)), [0, 3, 2, 3, 1])
        self.assertEqual(last(*begin, queue(1, 2, 3)), [0, 3, 2, 3, 1])

    def test_a_slot_at_the_very_time(self):
        self.assertEqual(last(slots(100, 10, 4), flight(1, 5, 110), queue(1)), [0, 1, 2])
        self.assertEqual(last(slots(100, 10, 4), flight(1, 5, 111), queue(1)), [0, 1, 3])

    def test_by_when_it_is_ready(self):
        self.assertEqual(last(*THREE, ready(1, 115), queue(1, 2, 3)), [0, 3, 3, 2, 4])

    def test_the_row_alone_tells_the_order(self):
        begin = [slots(100, 10, 4), flight(1, 5, 100), flight(2, 6, 90), exempt(2, 1)]
        self.assertEqual(last(*begin, queue(1, 2)), [0, 2, 1, 2])
        self.assertEqual(last(*begin, RATION, queue(1, 2)), [0, 2, 1, 2])

    def test_as_if_no_flight_had_a_slot(self):
        begin = [slots(100, 10, 3), flight(1, 5, 90), flight(2, 6, 90), flight(3, 7, 90), RATION]
        self.assertEqual(last(*begin, queue(3, 1, 2)), [0, 3, 1, 2, 3])
        # Nor does it matter who owns them, or that a cancelled flight got one.
        self.assertEqual(last(*begin, cancel(1), queue(3, 2)), [0, 2, 1, 2])
        self.assertEqual(last(*begin, cancel(1), release(1), queue(3, 2)), [0, 2, 1, 2])
        self.assertEqual(last(*begin, cancel(1), RATION, queue(2, 3)), [0, 2, 1, 2])

    def test_an_empty_row(self):
        self.assertEqual(ask(queue()), [[0, 0]])
        self.assertEqual(last(slots(1, 1, 5), RATION, queue()), [0, 0])
        self.assertEqual(last(flight(1, 5, 90), cancel(1), queue()), [0, 0])
        self.assertEqual(answers([15, 0, 15, 0, 14]), [2, 0, 0, 2, 0, 0, 4, 0, 0, 0, 0])

    def test_a_row_of_60_numbers(self):
        many = [flight(number, 0, number) for number in range(59, -1, -1)]
        begin = [slots(0, 1, 60), *many]
        self.assertEqual(last(*begin, queue(*range(60))), [0, 60, *range(1, 61)])
        self.assertEqual(last(*begin, queue(*range(59, -1, -1))), [0, 60, *range(60, 0, -1)])
        # The first of them may have the last slot alone, so one of the others is short of one.
        self.assertEqual(last(*begin, ready(0, 59), queue(*range(60))), [-7])

    def test_what_stands_behind_a_row_is_read(self):
        self.assertEqual(
            ask(*THREE, queue(1, 2, 3), queue(), queue(7), queue(*range(100)), TABLE)[4:],
            [[0, 3, 1, 2, 3], [-13], [-13], [-2], [0, 4, 100, 0, 0, 110, 0, 0, 120, 0, 0, 130, 0, 0]],
        )

    def test_changes_nothing(self):
        for begin in (THREE, [*THREE, RATION], [*THREE, RATION, flight(4, 9, 90), cancel(4)]):
            self.as_it_was([0, 3, 3, 1, 2], begin, queue(3, 1, 2))
            self.assertEqual(last(*begin, queue(3, 1, 2), RATION), last(*begin, RATION))

    def test_the_row_is_as_it_was(self):
        calls = joined([*THREE, queue(3, 1, 2), queue(3, 3, 1)])
        copy = list(calls)
        self.assertEqual(split_answers(answers(calls))[4:], [[0, 3, 3, 1, 2], [-13]])
        self.assertEqual(calls, copy)


class Refused(AsItWas, unittest.TestCase):
    def test_not_all_living_flights(self):
        for begin in (THREE, [*THREE, RATION]):
            for row in ((), (1,), (1, 2), (2, 3), (3, 1)):
                self.refused(-13, begin, queue(*row))

    def test_one_twice(self):
        for row in ((1, 1, 2), (1, 2, 3, 3), (1, 2, 3, 1, 2, 3), (1, 1, 1)):
            self.refused(-13, THREE, queue(*row))

    def test_one_that_is_not_there(self):
        for row in ((1, 2, 4), (1, 2, 3, 4), (0, 1, 2, 3), (999999, 1, 2), (4,)):
            self.refused(-13, THREE, queue(*row))
        self.refused(-13, [], queue(0))

    def test_one_that_is_cancelled(self):
        for begin in ([*THREE, cancel(2)], [*THREE, RATION, cancel(2)]):
            self.refused(-13, begin, queue(1, 2, 3))
            self.refused(-13, begin, queue(1, 2))
            self.refused(-13, begin, queue(2))
            self.assertEqual(last(*begin, queue(1, 3)), [0, 2, 1, 3])

    def test_60_numbers_that_are_not_all(self):
        self.refused(-13, THREE, queue(*range(60)))
        self.refused(-13, [], queue(*[7] * 60))

    def test_no_slot_for_one(self):
        self.refused(-7, [flight(1, 5, 90)], queue(1))
        self.refused(-7, [slots(100, 10, 2), flight(1, 5, 111)], queue(1))
        begin = [slots(100, 10, 2), flight(1, 5, 90), flight(2, 6, 90), flight(3, 5, 90)]
        for row in itertools.permutations((1, 2, 3)):
            self.refused(-7, begin, queue(*row))
        late = [slots(100, 10, 2), flight(1, 5, 105), flight(2, 6, 105)]
        self.refused(-7, late, queue(1, 2))
        self.refused(-7, late, queue(2, 1))

    def test_not_all_is_told_ahead_of_no_slot(self):
        self.refused(-13, [flight(1, 5, 90), flight(2, 5, 90)], queue(1))
        self.refused(-13, [flight(1, 5, 90)], queue(1, 1))
        self.refused(-13, [flight(1, 5, 90)], queue(1, 2))

    def test_more_than_60_numbers(self):
        full = [slots(0, 1, 120), *[flight(number, 0, 0) for number in range(60)]]
        for begin in ([], THREE, full):
            for count in (61, 99, 100):
                self.refused(-2, begin, queue(*range(count)))
                self.refused(-2, begin, queue(*[1] * count))
                self.refused(-2, begin, queue(*[-1] * count))

    def test_ranges(self):
        for number in (-1, 1000000, -FAR, FAR):
            for row in ((number,), (number, 2, 3), (1, number, 3), (1, 2, number), (1, 2, 3, number)):
                self.refused(-2, THREE, queue(*row))
                self.refused(-2, [], queue(*row))
            self.refused(-2, [], queue(*range(59), number))
        self.assertEqual(last(slots(5, 1, 2), flight(0, 1, 5), flight(999999, 1, 5), queue(999999, 0)), [0, 2, 1, 2])


if __name__ == "__main__":
    unittest.main()
