"""[2.1]: threes and their readings."""

import unittest
from itertools import product

from joinedguests.errors import NoThree
from joinedguests.threes import all_threes, is_couple, is_three, least_reading, reading_classes, readings_of
from joinedguests.ties import Ties
from oracle import BACKS, classes, readings

ODD = (None, 0, True, "000", (), (0, 0), (0, 0, 0, 0), (0, 0, True), (False, 0, 0), (0, None, 0), (0, "1", 0),
       (0, 0, -1), {0: 0, 1: 1, 2: 2}, (0, 0, (0,)), (0, 0, 1.0))


class TestThrees(unittest.TestCase):
    def test_is_three(self):
        for backs in BACKS:
            ties = Ties(backs)
            for three in product(range(5), repeat=3):
                for thing in (three, list(three)):
                    self.assertIs(is_three(ties, thing), max(three) < len(backs))
            for thing in ODD:
                self.assertIs(is_three(ties, thing), False, thing)

    def test_readings_are_those_of_three_guests(self):
        for backs in BACKS:
            ties = Ties(backs)
            for three in product(range(len(backs)), repeat=3):
                expected = sorted(readings(backs, three))
                self.assertEqual(readings_of(ties, three), tuple(expected))
                self.assertEqual(readings_of(ties, list(three)), tuple(expected))
                self.assertEqual(least_reading(ties, three), expected[0])

    def test_own_backs(self):
        ties = Ties((0, 1, 2))
        self.assertEqual(
            readings_of(ties, (2, 1, 0)),
            ((0, 1, 2), (0, 2, 1), (1, 0, 2), (1, 2, 0), (2, 0, 1), (2, 1, 0)))
        self.assertEqual(readings_of(ties, (1, 1, 1)), ((1, 1, 1),))

    def test_each_other_s_backs(self):
        ties = Ties((1, 0))
        self.assertEqual(readings_of(ties, (0, 0, 1)), ((0, 0, 1), (1, 1, 0)))
        self.assertEqual(len(readings_of(ties, (0, 0, 0))), 6)
        self.assertEqual(reading_classes(ties), ((0, 0, 0), (0, 0, 1)))

    def test_no_three(self):
        for thing in ODD + ((0, 0, 2), [3, 0, 0]):
            for call in (readings_of, least_reading):
                with self.assertRaises(NoThree) as caught:
                    call(Ties((0, 1)), thing)
                self.assertIs(caught.exception.three, thing)

    def test_all_threes(self):
        for backs in BACKS:
            self.assertEqual(all_threes(Ties(backs)), tuple(product(range(len(backs)), repeat=3)))

    def test_reading_classes(self):
        self.assertEqual(reading_classes(Ties((0, 1))), ((0, 0, 0), (0, 0, 1), (0, 1, 1), (1, 1, 1)))
        for backs in BACKS:
            self.assertEqual(reading_classes(Ties(backs)), tuple(classes(backs)))

    def test_is_couple(self):
        ties = Ties((0, 1))
        for thing, truth in [
            ((0, 1), True), ([1, 1], True), ((0, 2), False), ((0, True), False), ((0,), False), ((0, 1, 0), False),
            ("01", False), (None, False),
        ]:
            self.assertIs(is_couple(ties, thing), truth)


if __name__ == "__main__":
    unittest.main()
