"""[6.4] to [6.6]: namings, and what questions mean in companies."""

import random
import unittest
from itertools import product

from asking import holds, random_question
from joinedguests.company import Company
from joinedguests.errors import BadNaming, NoGuest, OtherTie, Unnamed
from joinedguests.meaning import check_ties, labels_of, meaning_of, true_namings
from joinedguests.questions import And, AtLeast, Everybody, Not, Or, Same, Somebody, TieIs
from joinedguests.ties import Ties
from oracle import chain, company

ATOM = TieIs("a", 0, "b")
BACKS = ((0, 1), (1, 0), (0, 2, 1), (0, 1, 2), (1, 0, 3, 2))


def random_rows(chance, backs, count):
    return tuple(tuple(chance.randrange(len(backs)) for _ in range(j)) for j in range(count))


class TestNamings(unittest.TestCase):
    def setUp(self):
        self.company = chain((0, 1), 0, [0, 1, 4, 7])

    def both(self, question, naming):
        return (
            lambda: labels_of(question, self.company, naming), lambda: meaning_of(question, self.company, naming))

    def bad(self, index, what, naming, question=ATOM):
        for call in self.both(question, naming):
            with self.assertRaises(BadNaming) as caught:
                call()
            self.assertEqual((caught.exception.index, caught.exception.what), (index, what), naming)

    def test_labels(self):
        question = And(TieIs("c", 0, "a"), Same("b", "a"))
        for naming in (
            (("a", 7), ("b", 0), ("c", 4)), [["c", 4], ["b", 0], ["a", 7]], (("b", 0), ("z", "odd"), ["c", 4], ("a", 7)),
        ):
            self.assertEqual(labels_of(question, self.company, naming), (7, 0, 4))
        self.assertEqual(labels_of(question, self.company, (("a", 1), ("b", 1), ("c", 1))), (1, 1, 1))
        self.assertEqual(labels_of(Somebody("a", Same("a", "a")), self.company, ()), ())
        self.assertEqual(labels_of(Somebody("a", ATOM), self.company, (("a", None), ("b", 4))), (4,))

    def test_pair(self):
        for pair in (None, "ab", ("a",), ("a", 0, 0), (), 5, {"a": 0}, {"a", 0}):
            self.bad(0, "pair", (pair, ("a", 0)))
            self.bad(2, "pair", (("a", 0), ("b", 1), pair))

    def test_name(self):
        for name in (None, True, 0, "", "A", "abcdefg", ["a"], ("a",)):
            self.bad(0, "name", ((name, 0),))
            self.bad(1, "name", (("a", 0), [name, 0], ("b", 0)))

    def test_double(self):
        self.bad(2, "double", (("a", 0), ("b", 1), ("a", 0)))
        self.bad(1, "double", (("x", 0), ("x", 0)))
        # One pair is checked ahead of the next one.
        self.bad(1, "double", (("a", 0), ("a", 1), None))
        self.bad(0, "pair", (None, ("a", 0), ("a", 1)))
        self.bad(1, "name", (("a", 0), (1, 1), ("a", 1)))

    def test_unnamed(self):
        for naming, name in [((), "a"), ((("b", 99),), "a"), ((("a", None),), "b"), ((("c", 0), ("a", True)), "b")]:
            for call in self.both(ATOM, naming):
                with self.assertRaises(Unnamed) as caught:
                    call()
                self.assertEqual(caught.exception.name, name)

    def test_unnamed_behind_wrong_pairs(self):
        self.bad(0, "pair", (None,))
        self.bad(1, "double", (("c", 0), ("c", 0)))

    def test_no_guest(self):
        for label in (2, 8, -1, True, False, None, "0", 0.0, [0], 10 ** 9):
            for naming in ((("a", label), ("b", None)), (("b", [9]), ("a", label)), (("a", 0), ("b", label))):
                for call in self.both(ATOM, naming):
                    with self.assertRaises(NoGuest) as caught:
                        call()
                    self.assertIs(caught.exception.label, label)

    def test_labels_of_names_that_are_not_free(self):
        question = Somebody("a", ATOM)
        for label in (99, None, True):
            self.assertEqual(labels_of(question, self.company, (("b", 1), ("a", label), ("q", label))), (1,))
            self.assertIs(meaning_of(question, self.company, (("a", label), ("b", 1))), True)


class TestTies(unittest.TestCase):
    def test_first_tie_in_the_order_of_the_subquestions(self):
        question = And(Or(Same("a", "b"), TieIs("a", 1, "b")), Somebody("c", And(TieIs("c", 3, "a"), TieIs("c", 2, "a"))))
        self.assertIsNone(check_ties(question, Ties((0, 1, 2, 3))))
        for backs, tie in [((0, 1, 2), 3), ((0, 1), 3)]:
            with self.assertRaises(OtherTie) as caught:
                check_ties(question, Ties(backs))
            self.assertEqual(caught.exception.tie, tie)
        with self.assertRaises(OtherTie) as caught:
            check_ties(Or(TieIs("a", 2, "b"), TieIs("a", 3, "b")), Ties((1, 0)))
        self.assertEqual(caught.exception.tie, 2)

    def test_also_where_the_answer_does_not_depend_on_it(self):
        told = chain((0, 1), 0, [3, 5])
        true = Same("a", "a")
        for question in (Or(true, TieIs("a", 2, "a")), And(Not(true), TieIs("a", 2, "a")), TieIs("a", 2, "a")):
            with self.assertRaises(OtherTie):
                meaning_of(question, told, (("a", 3),))
            with self.assertRaises(OtherTie):
                list(true_namings(question, told))
            # Wrong namings come first.
            with self.assertRaises(Unnamed):
                meaning_of(question, told, ())
            with self.assertRaises(NoGuest):
                meaning_of(question, told, (("a", 4),))
            with self.assertRaises(BadNaming):
                meaning_of(question, told, (("a", 3), None))
        with self.assertRaises(OtherTie):
            meaning_of(Somebody("a", TieIs("a", 2, "a")), Company(Ties((0, 1))), ())


class TestMeaning(unittest.TestCase):
    def test_random_questions(self):
        chance = random.Random(2)
        seen = {True: 0, False: 0}
        for at in range(900):
            backs = BACKS[at % len(BACKS)]
            rows = random_rows(chance, backs, chance.randint(1, 5))
            labels = sorted(chance.sample(range(20), len(rows)))
            names = "abcd"[:chance.randint(1, 4)]
            question = random_question(chance, names, len(backs), chance.randint(1, 16))
            seats = {name: chance.randrange(len(rows)) for name in names}
            naming = [(name, labels[place]) for name, place in seats.items()] + [("zz", None)]
            chance.shuffle(naming)
            expected = holds(question, backs, rows, seats)
            seen[expected] += 1
            self.assertIs(meaning_of(question, company(backs, rows, labels), naming), expected, str(question))
        self.assertGreater(min(seen.values()), 200)

    def test_one_guest_with_two_names(self):
        told = chain((0, 1), 0, [2, 3])
        self.assertIs(meaning_of(ATOM, told, (("a", 2), ("b", 3))), True)
        self.assertIs(meaning_of(ATOM, told, (("a", 3), ("b", 3))), False)
        self.assertIs(meaning_of(TieIs("a", 0, "a"), told, (("a", 3),)), False)
        self.assertIs(meaning_of(Same("a", "b"), told, (("a", 3), ("b", 3))), True)
        self.assertIs(meaning_of(Same("a", "b"), told, (("a", 3), ("b", 2))), False)

    def test_ties_have_a_direction(self):
        told = Company(Ties((1, 0)), (5, 6), ((), (0,)))
        self.assertIs(meaning_of(ATOM, told, (("a", 6), ("b", 5))), True)
        self.assertIs(meaning_of(ATOM, told, (("a", 5), ("b", 6))), False)

    def test_binders_mean_named_guests_too(self):
        told = chain((0, 1), 0, [0, 1])
        naming = (("a", 1),)
        self.assertIs(meaning_of(Somebody("b", Same("a", "b")), told, naming), True)
        self.assertIs(meaning_of(Everybody("b", ATOM), told, naming), False)
        self.assertIs(meaning_of(Everybody("b", Or(ATOM, Same("a", "b"))), told, naming), True)

    def test_a_binder_hides_a_name(self):
        told = Company(Ties((0, 1)), (0, 1, 2), ((), (0,), (1, 1)))
        # The free a and the bound a are told apart.
        question = And(Same("a", "b"), Somebody("a", TieIs("a", 0, "b")))
        self.assertEqual([meaning_of(question, told, (("a", x), ("b", x))) for x in range(3)], [True, True, False])
        self.assertIs(meaning_of(question, told, (("a", 0), ("b", 1))), False)

    def test_at_least(self):
        told = chain((0, 1), 0, list(range(6)))
        for times in range(1, 6):
            self.assertIs(meaning_of(AtLeast(times, "b", ATOM), told, (("a", 0),)), True)
            self.assertIs(meaning_of(AtLeast(times, "b", Same("a", "b")), told, (("a", 0),)), times == 1)
        for count in range(7):
            told = chain((0, 1), 0, list(range(count)))
            for times in range(1, 6):
                self.assertIs(meaning_of(AtLeast(times, "b", Same("b", "b")), told, ()), count >= times)

    def test_nobody(self):
        for backs in BACKS:
            nobody = Company(Ties(backs))
            for body in (Same("a", "a"), Not(Same("a", "a")), TieIs("a", 0, "a")):
                self.assertIs(meaning_of(Somebody("a", body), nobody, ()), False)
                self.assertIs(meaning_of(AtLeast(1, "a", body), nobody, ()), False)
                self.assertIs(meaning_of(Everybody("a", body), nobody, ()), True)
                self.assertIs(meaning_of(Everybody("b", Somebody("a", body)), nobody, ()), True)
            with self.assertRaises(NoGuest):
                meaning_of(ATOM, nobody, (("a", 0), ("b", 0)))
            self.assertEqual(list(true_namings(Everybody("a", Same("a", "a")), nobody)), [()])
            self.assertEqual(list(true_namings(Somebody("a", Same("a", "a")), nobody)), [])
            self.assertEqual(list(true_namings(Same("a", "a"), nobody)), [])

    def test_many_guests(self):
        labels = list(range(60))
        told = chain((1, 0), 0, labels)
        # Along the one-way tie 0 each guest has all later ones behind it.
        last = Not(Somebody("b", ATOM))
        self.assertEqual([x for x in labels if meaning_of(last, told, (("a", x),))], [59])
        self.assertIs(meaning_of(AtLeast(5, "b", ATOM), told, (("a", 54),)), True)
        self.assertIs(meaning_of(AtLeast(5, "b", ATOM), told, (("a", 55),)), False)
        told = chain((1, 0), 0, labels[:16])
        for times in range(1, 6):
            two_deep = Everybody("a", Or(last, AtLeast(times, "b", ATOM)))
            self.assertIs(meaning_of(two_deep, told, ()), times == 1)

    def test_long_questions(self):
        question = ATOM
        for _ in range(199):
            question = Not(question)
        told = chain((0, 1), 0, [0, 1])
        self.assertIs(meaning_of(question, told, (("a", 0), ("b", 1))), False)
        self.assertIs(meaning_of(question, told, (("a", 1), ("b", 1))), True)


class TestTrueNamings(unittest.TestCase):
    def test_random_questions(self):
        chance = random.Random(3)
        yielded = 0
        for at in range(300):
            backs = BACKS[at % len(BACKS)]
            rows = random_rows(chance, backs, chance.randint(0, 4))
            labels = sorted(chance.sample(range(20), len(rows)))
            question = random_question(chance, "abcd"[:chance.randint(1, 4)], len(backs), chance.randint(1, 12))
            expected = [
                tuple(labels[place] for place in places)
                for places in product(range(len(rows)), repeat=len(question.free))
                if holds(question, backs, rows, dict(zip(question.free, places)))]
            found = list(true_namings(question, company(backs, rows, labels)))
            self.assertEqual(found, expected, str(question))
            yielded += len(found)
        self.assertGreater(yielded, 1000)

    def test_order_by_hand(self):
        told = Company(Ties((1, 0)), (3, 5, 9), ((), (0,), (0, 0)))
        self.assertEqual(list(true_namings(TieIs("b", 0, "a"), told)), [(3, 5), (3, 9), (5, 9)])
        self.assertEqual(list(true_namings(TieIs("a", 0, "b"), told)), [(5, 3), (9, 3), (9, 5)])
        self.assertEqual(list(true_namings(Same("a", "b"), told)), [(3, 3), (5, 5), (9, 9)])
        self.assertEqual(list(true_namings(Somebody("a", TieIs("a", 0, "b")), told)), [(3,), (5,)])

    def test_no_free_names(self):
        told = chain((0, 1), 0, [1, 2])
        some = Somebody("a", Somebody("b", ATOM))
        self.assertEqual(list(true_namings(some, told)), [()])
        self.assertEqual(list(true_namings(Not(some), told)), [])

    def test_eight_guests_three_deep(self):
        chance = random.Random(5)
        told = company((0, 1), random_rows(chance, (0, 1), 8))
        body = Or(And(TieIs("p", 0, "a"), TieIs("q", 1, "p")), And(TieIs("r", 0, "q"), Not(TieIs("r", 0, "p"))))
        question = And(And(ATOM, TieIs("c", 1, "d")), Everybody("p", Everybody("q", Somebody("r", body))))
        rows = told.rows
        expected = [
            places for places in product(range(8), repeat=4)
            if told.guests and places[0] != places[1] and told.table[places[0]][places[1]] == 0
            and places[2] != places[3] and told.table[places[2]][places[3]] == 1
            and holds(question.other, (0, 1), rows, {"a": places[0]})]
        self.assertEqual(list(true_namings(question, told)), expected)


if __name__ == "__main__":
    unittest.main()
