"""A call that is refused leaves the house as it was: each refusal of each call that can change it."""

import unittest

from tests.lines import (
    COMPRESS, LAST_TIME, RATION, AsItWas, ask, best, cancel, exempt, flight, queue, ready, release, rival, slot, slots, swap,
    trade,
)

# Places 1 and 4 are carrier 0's, 2 and 3 carrier 1's, 5 carrier 2's and open, 6 nobody's. Flight 4 is ready at 115.
DAY = [
    slots(100, 10, 6), flight(1, 0, 90, 1), flight(2, 1, 90, 3), flight(3, 1, 90, 3), flight(4, 0, 90, 1), flight(5, 2, 90),
    RATION, cancel(5), ready(4, 115),
]
PLAN = [slots(100, 10, 2), flight(1, 0, 90), flight(2, 0, 91), flight(3, 1, 92), exempt(3, 1), cancel(1)]
# Place 1 was given to flight 1, then to flight 3: three flights for two slots.
CROWDED = [
    slots(100, 10, 2), flight(1, 0, 90), flight(2, 1, 90), RATION, cancel(1), release(1), flight(3, 2, 90), exempt(3, 1),
]
FULL = [slots(0, 1, 120), *[flight(number, number % 3, number) for number in range(60)], RATION]

REFUSED = [
    (-2, DAY, slots(0, 1, 0)), (-6, DAY, slots(150, 1, 1)), (-6, DAY, slots(LAST_TIME, 1, 2)), (-8, DAY, slots(200, 1, 115)),
    (-8, FULL, slots(200, 1, 1)),
    (-2, DAY, flight(7, 676, 90)), (-4, DAY, flight(5, 3, 140)), (-8, FULL, flight(60, 3, 60)), (-7, DAY, flight(7, 3, 151)),
    (-2, DAY, exempt(1, 2)), (-5, DAY, exempt(7, 1)),
    (-2, DAY, ready(1, -1)), (-5, DAY, ready(7, 100)), (-9, DAY, ready(5, 100)), (-6, DAY, ready(1, 89)),
    (-7, DAY, ready(1, 151)), (-7, DAY, ready(4, 151)),
    (-2, DAY, cancel(-1)), (-5, DAY, cancel(7)), (-9, DAY, cancel(5)),
    (-7, PLAN, RATION), (-7, CROWDED, RATION),
    (-3, PLAN, COMPRESS),
    (-2, DAY, swap(1, -1)), (-5, DAY, swap(1, 7)), (-9, DAY, swap(5, 5)), (-9, PLAN, swap(1, 2)), (-10, DAY, swap(1, 2)),
    (-10, DAY, swap(1, 1)), (-11, DAY, swap(1, 4)),
    (-2, DAY, best(676)), (-3, PLAN, best(0)),
    (-2, DAY, trade(1, 4, 2, -1)), (-5, DAY, trade(1, 4, 2, 7)), (-9, DAY, trade(1, 4, 2, 5)), (-10, DAY, trade(1, 2, 3, 4)),
    (-11, DAY, trade(4, 1, 2, 3)), (-12, DAY, trade(1, 4, 2, 3)),
    (-2, DAY, release(0)), (-5, DAY, release(7)), (-5, DAY, release(6)), (-9, DAY, release(4)),
    (-2, DAY, slot(-1)), (-5, DAY, slot(7)),
    (-2, DAY, queue(-1)), (-13, DAY, queue(1, 2, 3)), (-7, [*PLAN, ready(2, 105), ready(3, 105)], queue(2, 3)),
    (-2, DAY, rival(0)), (-13, DAY, rival(1, 2, 3)), (-13, DAY, rival(1, 2, 3, 7)),
]
# What comes later shows what no call tells: when flights are ready, which are exempt, whether slots have been given out.
LATER = [queue(4, 3, 2, 1), best(0), best(1), slots(300, 1, 1), flight(8, 2, 90, 5), COMPRESS, RATION, COMPRESS]


class Refusals(AsItWas, unittest.TestCase):
    def test_what_is_told_is_as_it_was(self):
        for number, begin, call in REFUSED:
            with self.subTest(call=call, number=number):
                self.refused(number, begin, call)

    def test_what_comes_later_is_as_it_was(self):
        for number, begin, call in REFUSED:
            with self.subTest(call=call, number=number):
                self.assertEqual(ask(*begin, call, *LATER)[len(begin) + 1:], ask(*begin, *LATER)[len(begin):])

    def test_refused_twice_it_answers_the_same(self):
        for number, begin, call in REFUSED:
            with self.subTest(call=call, number=number):
                self.assertEqual(ask(*begin, call, call, call)[len(begin):], [[number]] * 3)


if __name__ == "__main__":
    unittest.main()
