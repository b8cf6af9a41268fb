"""Promise 5: cancel."""

import unittest

from tests.lines import COMPRESS, FAR, RATION, ask, best, cancel, flight, last, ready, slots, swap


class Cancel(unittest.TestCase):
    def test_answers_the_slot_that_it_had(self):
        self.assertEqual(
            ask(slots(100, 10, 3), flight(1, 0, 93), flight(2, 1, 100), RATION, cancel(2), cancel(1))[3:],
            [[0, 7 + 10, 10], [0, 2, 110, 10], [0, 1, 100, 7]],
        )

    def test_answers_zeros_where_it_had_none(self):
        self.assertEqual(last(flight(1, 0, 93), cancel(1)), [0, 0, 0, 0])

    def test_the_owner_stays(self):
        begin = [slots(100, 10, 3), flight(1, 4, 100), flight(2, 4, 101), RATION, cancel(2)]
        self.assertEqual(last(*begin, flight(3, 5, 101)), [0, 3, 120, 19])
        self.assertEqual(last(*begin, flight(3, 4, 101)), [0, 3, 120, 19])
        self.assertEqual(last(*begin, ready(1, 110)), [0, 2, 110, 10])

    def test_the_slot_is_open(self):
        self.assertEqual(
            last(slots(100, 10, 2), flight(1, 4, 100), flight(2, 5, 100), RATION, cancel(1), COMPRESS), [0, 1, 2, 2, 1]
        )

    def test_counts_in_no_cost_and_no_sum_any_more(self):
        begin = [slots(100, 10, 3), flight(1, 4, 90, 3), flight(2, 4, 90, 5), flight(3, 4, 90, 7), RATION]
        self.assertEqual(ask(*begin, best(4))[4:], [[0, 60, 30], [0, 30 + 100 + 210, 70 + 100 + 90]])
        self.assertEqual(ask(*begin, cancel(3), swap(1, 2))[5:], [[0, 3, 120, 30], [0, 30 + 100, 60 + 50]])
        self.assertEqual(ask(*begin, cancel(3), RATION)[5:], [[0, 3, 120, 30], [0, 30, 20]])

    def test_takes_part_in_no_best_and_no_compress(self):
        begin = [slots(100, 10, 3), flight(1, 4, 100, 1), flight(2, 4, 100, 9), RATION, cancel(2)]
        self.assertEqual(ask(*begin, best(4), COMPRESS, cancel(1))[5:], [[0, 0, 0], [0, 0], [0, 1, 100, 0]])
        begin = [slots(100, 10, 3), flight(1, 4, 100, 1), flight(2, 4, 100, 9), RATION, cancel(1), cancel(2)]
        self.assertEqual(ask(*begin, best(4), COMPRESS)[6:], [[0, 0, 0], [0, 0]])


class Refused(unittest.TestCase):
    def test_no_such_flight(self):
        self.assertEqual(ask(cancel(1), flight(2, 0, 0), cancel(1)), [[-5], [0, 0, 0, 0], [-5]])

    def test_cancelled_already(self):
        self.assertEqual(ask(flight(2, 0, 0), cancel(2), cancel(2), cancel(2))[1:], [[0, 0, 0, 0], [-9], [-9]])
        self.assertEqual(
            ask(slots(5, 1, 1), flight(2, 0, 0), RATION, cancel(2), cancel(2), RATION, cancel(2))[3:],
            [[0, 1, 5, 5], [-9], [0, 0, 0], [-9]],
        )

    def test_ranges(self):
        self.assertEqual(last(flight(0, 0, 0), cancel(0)), [0, 0, 0, 0])
        self.assertEqual(last(flight(999999, 0, 0), cancel(999999)), [0, 0, 0, 0])
        self.assertEqual(ask(cancel(0), cancel(999999)), [[-5], [-5]])
        for number in (-1, 1000000, -FAR, FAR):
            self.assertEqual(last(flight(1, 0, 0), cancel(number)), [-2])


if __name__ == "__main__":
    unittest.main()
