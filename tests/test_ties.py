"""[0.4], [1.1]: whole numbers, labels, backs of ties."""

import unittest

from joinedguests.errors import BadTies, NoTie, OtherTies
from joinedguests.ties import MOST_LABEL, MOST_TIES, Ties, check_backs, is_label, is_same, is_whole
from oracle import BACKS

ODD = (True, False, None, "1", 1.0, (1,), [1])


class TestNumbers(unittest.TestCase):
    def test_bounds(self):
        self.assertEqual((MOST_TIES, MOST_LABEL), (4, 1000000000))

    def test_is_whole(self):
        for thing, low, high, truth in [
            (3, 3, 5, True), (5, 3, 5, True), (4, 3, 5, True), (2, 3, 5, False), (6, 3, 5, False),
            (0, 0, 0, True), (-1, -2, 0, True),
        ]:
            self.assertIs(is_whole(thing, low, high), truth)

    def test_odd_things_are_no_whole_numbers(self):
        for thing in ODD:
            self.assertIs(is_whole(thing, 0, 9), False, thing)
            self.assertIs(is_label(thing), False, thing)

    def test_is_label(self):
        for thing, truth in [(0, True), (1, True), (10 ** 9, True), (10 ** 9 + 1, False), (-1, False)]:
            self.assertIs(is_label(thing), truth)

    def test_true_and_false_equal_no_number(self):
        for one, other, truth in [
            (1, 1, True), (1, 2, False), (True, 1, False), (0, False, False), (True, True, True),
            (True, False, False), ((1, (2,)), (1, (2,)), True), ((1, (True,)), (1, (1,)), False),
            ([1], [1], True), ([True], [1], False), ((1,), [1], False), ((1,), (1, 2), False),
            (None, None, True), ("a", "a", True), ("a", None, False),
        ]:
            self.assertIs(is_same(one, other), truth, (one, other))
            self.assertIs(is_same(other, one), truth, (one, other))


class TestTies(unittest.TestCase):
    def test_right_backs(self):
        for backs in BACKS:
            for kind in (tuple, list):
                ties = Ties(kind(backs))
                self.assertEqual(ties.backs, backs)
                self.assertIs(type(ties.backs), tuple)
                self.assertEqual(ties.many, len(backs))

    def test_back_and_one_way(self):
        ties = Ties((0, 2, 1, 3))
        self.assertEqual([ties.back(tie) for tie in range(4)], [0, 2, 1, 3])
        self.assertEqual([ties.one_way(tie) for tie in range(4)], [False, True, True, False])
        self.assertIs(ties.one_way(0), False)
        self.assertIs(ties.one_way(1), True)

    def test_no_tie(self):
        ties = Ties((0, 2, 1))
        for thing in ODD + (-1, 3):
            for method in (ties.back, ties.one_way):
                with self.assertRaises(NoTie) as caught:
                    method(thing)
                self.assertIs(caught.exception.tie, thing)

    def refused(self, backs, what):
        with self.assertRaises(BadTies) as caught:
            Ties(backs)
        self.assertEqual(caught.exception.what, what, backs)

    def test_no_row(self):
        for backs in (None, 2, "01", {0: 0, 1: 1}, {0, 1}, range(2), True):
            self.refused(backs, "row")

    def test_count(self):
        for backs in ((), (0,), (0, 1, 2, 3, 4), [0], [7, 7, 7, 7, 7]):
            self.refused(backs, "count")

    def test_entry_is_no_tie(self):
        for backs in ((0, 2), (-1, 1), (0, True), (False, 1), (None, 0), ("0", 1), (0, 1, 3), (0, 1, 2, 4)):
            self.refused(backs, "tie")

    def test_back_of_back(self):
        for backs in ((0, 0), (1, 1), (1, 2, 0), (0, 1, 1), (1, 0, 0, 3), (1, 2, 3, 0)):
            self.refused(backs, "back")

    def test_words_due_at_once(self):
        self.refused("0", "row")
        self.refused((9,), "count")
        self.refused((1, 1, 9), "tie")
        self.refused((1, 2, True), "tie")

    def test_equality(self):
        self.assertEqual(Ties((0, 1)), Ties([0, 1]))
        self.assertNotEqual(Ties((0, 1)), Ties((1, 0)))
        self.assertNotEqual(Ties((0, 1)), Ties((0, 1, 2)))
        for thing in ((0, 1), None, 2):
            self.assertFalse(Ties((0, 1)) == thing)

    def test_a_list_changed_later(self):
        backs = [0, 1]
        ties = Ties(backs)
        backs[0] = 1
        backs.append(2)
        self.assertEqual((ties.backs, ties.many), ((0, 1), 2))

    def test_check_backs(self):
        self.assertIsNone(check_backs(Ties((0, 1)), Ties((0, 1))))
        with self.assertRaises(OtherTies):
            check_backs(Ties((0, 1)), Ties((1, 0)))


if __name__ == "__main__":
    unittest.main()
