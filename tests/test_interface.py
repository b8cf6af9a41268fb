"""The interface: one list of whole numbers in, one out, and nothing beside it."""

import contextlib
import io
import unittest

import slothouse.arrivals
from tests.lines import (
    COMPRESS, FAR, OPEN, RATION, TABLE, TOTAL, ask, best, cancel, carrier, exempt, flight, joined, queue, ready, release, rival,
    slot, slots, split_answers, swap, trade,
)

DAY = joined([
    slots(600, 5, 6), flight(11, 0, 600, 10), flight(12, 1, 600, 20), flight(13, 0, 602, 30), flight(14, 2, 604, 5),
    exempt(14, 1), RATION, cancel(11), COMPRESS, best(0), ready(12, 612), slots(640, 10, 1), flight(15, 1, 603, 1000),
    swap(12, 15), swap(12, 13), flight(15, 0, 0, 1), best(1), slots(640, 1, 1), ready(99, 5), cancel(11), COMPRESS, RATION,
    TABLE, slot(11), slot(15), carrier(1), TOTAL, OPEN, queue(15, 12, 13, 14), queue(15, 12, 13), rival(3, 5, 2, 4),
    rival(4, 3, 2, 5), rival(8, 5, 2, 4), release(1), release(1), release(2), flight(16, 0, 600, 1), flight(17, 0, 605, 40),
    trade(13, 17, 12, 15), trade(13, 17, 15, 12), TABLE, carrier(0), carrier(1), TOTAL, OPEN,
])
DAY_ANSWERS = [
    2, 0, 6,
    4, 0, 0, 0, 0, 4, 0, 0, 0, 0, 4, 0, 0, 0, 0, 4, 0, 0, 0, 0,
    1, 0,
    # 14 at 605 (place 2), 11 at 600, 12 at 610, 13 at 615
    3, 0, 1 + 0 + 10 + 13, 13,
    4, 0, 1, 600, 0,
    # Place 1 is carrier 0's: its flight 13 may not have 600; flight 12 may. Place 3 then is carrier 0's.
    8, 0, 2, 12, 3, 1, 13, 4, 3,
    3, 0, 30 * 8, 30 * 8,
    # Place 4 is carrier 0's still, so flight 12 goes to place 5.
    4, 0, 5, 620, 20,
    2, 0, 7,
    # Place 1 is carrier 1's, place 6 nobody's.
    4, 0, 6, 625, 22,
    3, 0, 20 * 20 + 1000 * 22, 20 * 25 + 1000 * 17,
    1, -10,
    1, -4,
    # Places 1, 5 and 6 are carrier 1's, and neither flight may have place 1.
    3, 0, 17500, 17500,
    1, -6,
    1, -5,
    1, -9,
    # Place 4 is carrier 0's: flight 15 comes from place 5, and flight 12 from place 6 to that.
    8, 0, 2, 15, 5, 4, 12, 6, 5,
    # 14 at 605, 11 (cancelled) at 600, 12 (ready at 612) at 615, 13 at 610, 15 at 620
    3, 0, 1 + 15 + 8 + 17, 17,
    23, 0, 7, 600, 1, 0, 605, 3, 15, 610, 1, 14, 615, 2, 13, 620, 2, 16, 625, 0, 0, 640, 0, 0,
    5, 0, 1, 0, 0, 0,
    5, 0, 0, 5, 620, 17,
    6, 0, 2, 15 + 17, 17, 20 * 15 + 1000 * 17, 2,
    4, 0, 4, 1 + 15 + 8 + 17, 17,
    5, 0, 3, 1, 6, 7,
    # 15 may have 605, 12 not before 615, 13 then 610, 14 finds 605 and these gone.
    6, 0, 4, 2, 4, 3, 5,
    1, -13,
    # 12 may not have place 3.
    4, 0, 0, 0, 0,
    4, 0, 1, 15 + 8 + 1 + 17, 17,
    1, -13,
    1, 0,
    1, -5,
    1, -9,
    # Place 1 is nobody's now, and then carrier 0's.
    4, 0, 1, 600, 0,
    4, 0, 6, 625, 20,
    # 12 may not have 610.
    1, -11,
    # 13 goes to 620 and 15 to 610, 17 to 615 and 12 to 625.
    5, 0, 30 * 8 + 40 * 20, 30 * 18 + 40 * 10, 20 * 15 + 1000 * 17, 20 * 25 + 1000 * 7,
    23, 0, 7, 600, 1, 17, 605, 3, 15, 610, 2, 16, 615, 1, 18, 620, 1, 14, 625, 2, 13, 640, 0, 0,
    6, 0, 3, 18 + 0 + 10, 18, 940, 3,
    6, 0, 2, 25 + 7, 25, 7500, 2,
    4, 0, 6, 1 + 18 + 0 + 10 + 25 + 7, 25,
    3, 0, 1, 7,
]


class Watched(list):
    """A list that refuses every change, also one that is taken back."""

    def refuse(self, *given, **named):
        raise AssertionError("the list handed in was changed")

    append = extend = insert = pop = remove = clear = sort = reverse = refuse
    __setitem__ = __delitem__ = __iadd__ = __imul__ = refuse


class Answers(unittest.TestCase):
    def test_a_whole_line(self):
        self.assertEqual(slothouse.arrivals.answers(DAY), DAY_ANSWERS)

    def test_one_call(self):
        self.assertEqual(slothouse.arrivals.answers([5]), [3, 0, 0, 0])
        self.assertEqual(slothouse.arrivals.answers([6]), [1, -3])
        self.assertEqual(slothouse.arrivals.answers([2, 1, 1]), [1, -5])

    def test_what_is_no_call_is_answered_by_none(self):
        for number in (-1, 18, 100):
            with self.assertRaises(KeyError):
                slothouse.arrivals.answers([number])

    def test_every_call_out_of_range_is_read_whole(self):
        got = ask(
            slots(-1, 0, 0), flight(-1, -1, -1, -1), exempt(-1, -1), ready(-1, -1), cancel(-1), swap(-1, -1), best(-1),
            trade(-1, -1, -1, -1), release(-1), slot(-1), carrier(-1), queue(-1, -1), rival(-1, -1, -1),
            slots(FAR, FAR, FAR), flight(FAR, FAR, FAR, FAR), exempt(FAR, FAR), ready(FAR, FAR), cancel(FAR),
            swap(FAR, FAR), best(FAR), trade(FAR, FAR, FAR, FAR), release(FAR), slot(FAR), carrier(FAR), queue(*[FAR] * 100),
            rival(*[FAR] * 100), COMPRESS, RATION, TABLE, TOTAL, OPEN,
        )
        self.assertEqual(got, [[-2]] * 26 + [[-3], [0, 0, 0], [0, 0], [0, 0, 0, 0], [0, 0]])

    def test_200_calls(self):
        many = [flight(number, number % 3, 0, 1 + number) for number in range(60)]
        line = [slots(0, 2, 120), *many, RATION, *[best(0), COMPRESS, swap(0, 3)] * 46]
        self.assertEqual(len(line), 200)
        got = ask(*line)
        self.assertEqual(len(got), 200)
        self.assertEqual(got[61], [0, 2 * 59 * 60 // 2, 118])
        self.assertTrue(all(told == [0, 0] for told in got[63::3]))

    def test_200_calls_with_120_slots_and_60_flights_in_falling_order(self):
        many = [flight(number, number % 4, number // 2, 1 + number % 5) for number in range(59, -1, -1)]
        row = queue(*range(60))
        tail = [TABLE, row, rival(*range(1, 61)), OPEN, TOTAL, carrier(3), slot(59), queue(*range(100)), release(120)]
        line = [slots(0, 1, 120), *many, RATION, *tail * 15, best(0), COMPRESS, TOTAL]
        self.assertEqual(len(line), 200)
        got = ask(*line)
        # Flight n takes place n + 1 at the time n, so it is late by n - n // 2.
        late = [number - number // 2 for number in range(60)]
        table = [part for number in range(60) for part in (number, number % 4 + 1, number + 1)]
        free = [part for number in range(60, 120) for part in (number, 0, 0)]
        third = [number for number in range(60) if number % 4 == 3]
        expected = [
            [0, 120, *table, *free], [0, 60, *range(1, 61)], [0, 1, sum(late), max(late)], [0, 60, *range(61, 121)],
            [0, 60, sum(late), max(late)],
            [0, 15, sum(late[n] for n in third), late[59], sum(late[n] * (1 + n % 5) for n in third), 15],
            [0, 0, 60, 59, 30], [-2], [-5],
        ]
        self.assertEqual(got[61], [0, sum(late), max(late)])
        self.assertEqual(got[62:197], expected * 15)
        self.assertEqual(got[198], [0, 0])
        self.assertEqual(got[199][:3], [0, 60, sum(late)])

    def test_the_longest_list(self):
        line = [queue(*[FAR] * 100)] * 156 + [rival(*[1] * 42)] + [TABLE] * 43
        self.assertEqual((len(line), len(joined(line))), (200, 15999))
        self.assertEqual(ask(*line), [[-2]] * 156 + [[-13]] + [[0, 0]] * 43)

    def test_whole_numbers_in_a_list(self):
        told = slothouse.arrivals.answers(DAY)
        self.assertIs(type(told), list)
        self.assertEqual({type(number) for number in told}, {int})

    def test_each_count_fits(self):
        self.assertEqual(len(split_answers(slothouse.arrivals.answers(DAY))), 45)


class HandedIn(unittest.TestCase):
    def test_is_as_it_was(self):
        calls = list(DAY)
        slothouse.arrivals.answers(calls)
        self.assertEqual(calls, DAY)

    def test_is_not_changed_for_a_while_either(self):
        self.assertEqual(slothouse.arrivals.answers(Watched(DAY)), DAY_ANSWERS)

    def test_is_not_given_back(self):
        calls = [5]
        self.assertIsNot(slothouse.arrivals.answers(calls), calls)


class NothingKept(unittest.TestCase):
    def test_a_second_run_answers_the_same(self):
        calls = list(DAY)
        self.assertEqual(slothouse.arrivals.answers(calls), slothouse.arrivals.answers(calls))

    def test_every_house_is_new(self):
        slothouse.arrivals.answers(DAY)
        self.assertEqual(
            ask(COMPRESS, cancel(12), TABLE, TOTAL, carrier(0), queue(), slots(0, 1, 1)),
            [[-3], [-5], [0, 0], [0, 0, 0, 0], [0, 0, 0, 0, 0, 0], [0, 0], [0, 1]],
        )

    def test_an_answer_that_is_changed_changes_no_other(self):
        told = slothouse.arrivals.answers(DAY)
        told.clear()
        self.assertEqual(slothouse.arrivals.answers(DAY), DAY_ANSWERS)

    def test_nothing_is_printed(self):
        out = io.StringIO()
        with contextlib.redirect_stdout(out), contextlib.redirect_stderr(out):
            slothouse.arrivals.answers(DAY)
        self.assertEqual(out.getvalue(), "")


if __name__ == "__main__":
    unittest.main()
