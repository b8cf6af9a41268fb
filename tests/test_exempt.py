"""Promise 3: exempt."""

import unittest

from tests.lines import COMPRESS, FAR, RATION, ask, best, cancel, exempt, flight, last, slots


class Exempt(unittest.TestCase):
    begin = [slots(100, 10, 3), flight(1, 0, 50), flight(2, 0, 60), flight(3, 0, 70)]
    places = [cancel(1), cancel(2), cancel(3)]

    def places_after(self, *calls):
        return [told[1] for told in ask(*self.begin, *calls, *self.places)[-3:]]

    def test_answers_0_alone(self):
        self.assertEqual(ask(*self.begin, exempt(3, 1), exempt(3, 1), exempt(3, 0), exempt(3, 0))[4:], [[0]] * 4)

    def test_comes_first_when_slots_are_given_out(self):
        self.assertEqual(self.places_after(RATION), [1, 2, 3])
        self.assertEqual(self.places_after(exempt(3, 1), RATION), [2, 3, 1])
        self.assertEqual(self.places_after(exempt(3, 1), exempt(2, 1), RATION), [3, 1, 2])

    def test_the_last_word_counts(self):
        self.assertEqual(self.places_after(exempt(3, 1), exempt(3, 0), RATION), [1, 2, 3])
        self.assertEqual(self.places_after(exempt(3, 0), exempt(3, 1), RATION), [2, 3, 1])
        self.assertEqual(self.places_after(exempt(3, 1), exempt(3, 1), RATION), [2, 3, 1])
        self.assertEqual(self.places_after(exempt(2, 0), RATION), [1, 2, 3])

    def test_lasts_when_slots_are_given_out_again(self):
        self.assertEqual(self.places_after(exempt(3, 1), RATION, RATION), [2, 3, 1])
        self.assertEqual(self.places_after(exempt(3, 1), RATION, exempt(3, 0), RATION), [1, 2, 3])

    def test_changes_no_slot_by_itself(self):
        self.assertEqual(self.places_after(RATION, exempt(3, 1), COMPRESS, best(0)), [1, 2, 3])

    def test_a_cancelled_flight_can_be_exempt(self):
        got = ask(*self.begin, cancel(3), exempt(3, 1), RATION, cancel(1), cancel(2), cancel(3))
        self.assertEqual(
            got[4:], [[0, 0, 0, 0], [0], [0, 60 + 60, 60], [0, 2, 110, 60], [0, 3, 120, 60], [-9]]
        )


class Refused(unittest.TestCase):
    def test_no_such_flight(self):
        self.assertEqual(ask(exempt(1, 1), flight(2, 0, 0), exempt(1, 0), exempt(2, 0)), [[-5], [0, 0, 0, 0], [-5], [0]])

    def test_ranges(self):
        self.assertEqual(ask(flight(0, 0, 0), exempt(0, 1), exempt(999999, 1))[1:], [[0], [-5]])
        self.assertEqual(ask(flight(999999, 0, 0), exempt(999999, 0))[1:], [[0]])
        for number in (-1, 1000000, -FAR, FAR):
            self.assertEqual(last(exempt(number, 1)), [-2])
        for yes in (-1, 2, -FAR, FAR):
            self.assertEqual(last(flight(1, 0, 0), exempt(1, yes)), [-2])
            self.assertEqual(last(exempt(1, yes)), [-2])

    def test_nothing_changes(self):
        got = ask(slots(10, 10, 2), flight(1, 0, 0), flight(2, 0, 5), exempt(2, 2), exempt(3, 1), RATION, cancel(2))
        self.assertEqual(got[3:], [[-2], [-5], [0, 10 + 15, 15], [0, 2, 20, 15]])
        got = ask(slots(10, 10, 2), flight(1, 0, 0), flight(2, 0, 5), exempt(2, 1), exempt(2, -1), RATION, cancel(2))
        self.assertEqual(got[3:], [[0], [-2], [0, 20 + 5, 20], [0, 1, 10, 5]])


if __name__ == "__main__":
    unittest.main()
