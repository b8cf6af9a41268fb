"""Promise 1: slots."""

import unittest

from tests.lines import COMPRESS, FAR, LAST_TIME, RATION, ask, cancel, flight, last, slots


class NewSlots(unittest.TestCase):
    def test_answers_how_many_there_are_now(self):
        self.assertEqual(
            ask(slots(100, 10, 5), slots(141, 1, 3), slots(1000, 1440, 1)), [[0, 5], [0, 8], [0, 9]]
        )

    def test_times_begin_at_the_first_and_rise_by_the_gap(self):
        got = ask(
            slots(100, 7, 3), slots(200, 1, 2),
            flight(1, 0, 0), flight(2, 0, 0), flight(3, 0, 0), flight(4, 0, 0), flight(5, 0, 0), RATION,
            cancel(1), cancel(2), cancel(3), cancel(4), cancel(5),
        )
        self.assertEqual(got[7], [0, 100 + 107 + 114 + 200 + 201, 201])
        self.assertEqual(
            got[8:], [[0, 1, 100, 100], [0, 2, 107, 107], [0, 3, 114, 114], [0, 4, 200, 200], [0, 5, 201, 201]]
        )

    def test_nobody_owns_them(self):
        self.assertEqual(
            ask(slots(0, 5, 2), RATION, flight(7, 675, 0), slots(9, 5, 1), flight(8, 0, 0), flight(9, 4, 0)),
            [[0, 2], [0, 0, 0], [0, 1, 0, 0], [0, 3], [0, 2, 5, 5], [0, 3, 9, 9]],
        )

    def test_new_ones_do_not_change_what_was_given_out(self):
        self.assertEqual(
            ask(slots(50, 5, 1), flight(1, 2, 50), RATION, slots(60, 5, 1), COMPRESS, cancel(1)),
            [[0, 1], [0, 0, 0, 0], [0, 0, 0], [0, 2], [0, 0], [0, 1, 50, 0]],
        )

    def test_new_ones_alone_do_not_give_out(self):
        self.assertEqual(ask(slots(50, 5, 1), flight(1, 2, 50), COMPRESS), [[0, 1], [0, 0, 0, 0], [-3]])


class WrongTimes(unittest.TestCase):
    def test_first_time_must_be_after_every_slot(self):
        self.assertEqual(
            ask(
                slots(100, 10, 3), slots(120, 1, 1), slots(119, 1, 1), slots(105, 1, 1), slots(100, 1, 1),
                slots(0, 1, 1), slots(121, 1, 1),
            ),
            [[0, 3], [-6], [-6], [-6], [-6], [-6], [0, 4]],
        )

    def test_time_0_is_taken_once(self):
        self.assertEqual(ask(slots(0, 1, 1), slots(0, 1, 1), slots(1, 1, 1)), [[0, 1], [-6], [0, 2]])

    def test_the_last_may_be_at_the_last_time(self):
        self.assertEqual(last(slots(LAST_TIME, 1, 1)), [0, 1])
        self.assertEqual(last(slots(LAST_TIME, 1440, 1)), [0, 1])
        self.assertEqual(last(slots(LAST_TIME - 1440 * 119, 1440, 120)), [0, 120])

    def test_the_last_may_not_be_beyond_the_last_time(self):
        self.assertEqual(last(slots(LAST_TIME, 1, 2)), [-6])
        self.assertEqual(last(slots(LAST_TIME - 1440 * 119 + 1, 1440, 120)), [-6])

    def test_nothing_is_new_after_a_refusal(self):
        self.assertEqual(
            ask(slots(10, 1, 2), slots(11, 1, 5), slots(LAST_TIME - 1, 1, 3), slots(12, 1, 1)),
            [[0, 2], [-6], [-6], [0, 3]],
        )


class Full(unittest.TestCase):
    def test_120_at_once(self):
        self.assertEqual(ask(slots(0, 1, 120), slots(120, 1, 1)), [[0, 120], [-8]])

    def test_120_in_parts(self):
        self.assertEqual(
            ask(slots(0, 1, 60), slots(60, 1, 61), slots(60, 1, 60), slots(120, 1, 1)),
            [[0, 60], [-8], [0, 120], [-8]],
        )
        self.assertEqual(ask(slots(0, 1, 1), slots(1, 1, 120)), [[0, 1], [-8]])

    def test_nothing_is_new_after_a_refusal(self):
        self.assertEqual(
            ask(slots(0, 1, 119), slots(200, 1, 2), slots(200, 1, 1)), [[0, 119], [-8], [0, 120]]
        )

    def test_a_wrong_time_is_told_before(self):
        self.assertEqual(ask(slots(0, 1, 120), slots(119, 1, 1)), [[0, 120], [-6]])
        self.assertEqual(ask(slots(0, 1, 120), slots(LAST_TIME, 1, 2)), [[0, 120], [-6]])


class Ranges(unittest.TestCase):
    def test_first_and_last_of_each_range(self):
        self.assertEqual(last(slots(0, 1, 1)), [0, 1])
        self.assertEqual(last(slots(0, 1440, 120)), [0, 120])

    def test_just_beyond_and_far_beyond(self):
        for first_time in (-1, LAST_TIME + 1, -FAR, FAR):
            self.assertEqual(ask(slots(first_time, 1, 1), slots(0, 1, 1)), [[-2], [0, 1]])
        for gap in (0, -1, 1441, -FAR, FAR):
            self.assertEqual(ask(slots(0, gap, 1), slots(0, 1, 1)), [[-2], [0, 1]])
        for how_many in (0, -1, 121, -FAR, FAR):
            self.assertEqual(ask(slots(0, 1, how_many), slots(0, 1, 1)), [[-2], [0, 1]])

    def test_out_of_range_is_told_before_all_else(self):
        self.assertEqual(ask(slots(5, 1, 120), slots(5, 0, 1), slots(6, 1, 121)), [[0, 120], [-2], [-2]])
        self.assertEqual(ask(slots(5, 1, 1), slots(-1, 1, 1)), [[0, 1], [-2]])


if __name__ == "__main__":
    unittest.main()
