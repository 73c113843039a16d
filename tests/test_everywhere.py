"""[10.9], [10.10]: questions that hold in all companies of a book, or in some."""

import random
import unittest

from asking import holds, random_question
from joinedguests.book import Book
from joinedguests.company import Company
from joinedguests.errors import BadQuestion, NotSuch, OtherTie
from joinedguests.everywhere import book_questions, holds_everywhere, holds_somewhere, three_question
from joinedguests.meaning import meaning_of
from joinedguests.questions import And, AtLeast, Everybody, Not, Or, Same, Somebody, TieIs
from joinedguests.shapes import is_universal
from joinedguests.ties import Ties
from oracle import BACKS, all_books, all_rows, classes, closed, company, first_barred, let_rows

TRUE = Same("a", "a")


def least_count(book, question, wanted, most=4):
    """The number of guests of the least let company in which the question's meaning is as wanted, or None."""
    for count in range(most + 1):
        for rows in let_rows(book.ties.backs, book.barred, count):
            if holds(question, book.ties.backs, rows, {}) == wanted:
                return count
    return None


def random_sentence(chance, words, many):
    names = "abc"[:len(words)]
    question = random_question(chance, names, many, chance.randint(1, 9), plain=True)
    for name, word in zip(names, words):
        question = (Somebody if word == "some" else Everybody)(name, question)
    return question


class TestHolds(unittest.TestCase):
    def check(self, book, question, call, wanted):
        found = call(book, question)
        count = least_count(book, question, wanted, 4 if book.ties.many == 2 else 3)
        if count is None:
            self.assertIsNone(found)
            return None
        self.assertIsInstance(found, Company)
        self.assertTrue(book.lets(found))
        self.assertEqual(len(found), count)
        self.assertIs(meaning_of(question, found, ()), wanted)
        return count

    def books(self):
        return all_books((0, 1)) + all_books((1, 0)) + all_books((0, 2, 1))[::11]

    def test_everywhere(self):
        chance = random.Random(1)
        seen = {}
        for book in self.books():
            for _ in range(25):
                question = random_sentence(chance, ["all"] * chance.randint(1, 3), book.ties.many)
                count = self.check(book, question, holds_everywhere, False)
                seen[count] = seen.get(count, 0) + 1
            for three in classes(book.ties.backs):
                count = self.check(book, three_question(*three), holds_everywhere, False)
                seen[count] = seen.get(count, 0) + 1
        self.assertEqual(set(seen), {None, 1, 2, 3})

    def test_somewhere(self):
        chance = random.Random(2)
        seen = {}
        for book in self.books():
            for _ in range(30):
                outer = ["all"] * chance.randint(0, 2)
                words = outer + ["some"] * chance.randint(0 if outer else 1, 3 - len(outer))
                count = self.check(book, random_sentence(chance, words, book.ties.many), holds_somewhere, True)
                seen[count] = seen.get(count, 0) + 1
        self.assertTrue({None, 0, 1, 2, 3} <= set(seen), seen)

    def test_by_hand(self):
        book = Book(Ties((0, 1)), [(0, 0, 0)])
        three = Somebody("a", Somebody("b", Somebody("c", And(And(Not(Same("a", "b")), Not(Same("b", "c"))), Not(Same("a", "c"))))))
        self.assertEqual(len(holds_somewhere(book, three)), 3)
        self.assertEqual(holds_somewhere(book, Everybody("a", Not(TRUE))), Company(Ties((0, 1))))
        self.assertEqual(len(holds_somewhere(book, Somebody("a", TRUE))), 1)
        self.assertIsNone(holds_somewhere(book, Somebody("a", Not(TRUE))))
        self.assertIsNone(holds_everywhere(book, Everybody("a", TRUE)))
        self.assertEqual(len(holds_everywhere(book, Everybody("a", Not(TRUE)))), 1)
        # One guest, to whom all have tie 0: alone it has tie 0 to all others.
        question = Somebody("a", Everybody("b", Or(Same("a", "b"), TieIs("a", 0, "b"))))
        self.assertEqual(len(holds_somewhere(book, question)), 1)
        self.assertEqual(len(holds_everywhere(book, Everybody("a", Everybody("b", Not(TieIs("a", 0, "b")))))), 2)

    def test_four_ties(self):
        ties = Ties((0, 1, 3, 2))
        book = Book(ties, [(2, 2, 2)])
        self.assertIsNone(holds_everywhere(book, three_question(2, 2, 2)))
        self.assertEqual(len(holds_everywhere(book, three_question(2, 2, 3))), 3)
        self.assertIsNone(holds_everywhere(book, three_question(3, 3, 3)))


class TestErrors(unittest.TestCase):
    def setUp(self):
        self.book = Book(Ties((0, 1)))
        self.wrong = TieIs("a", 2, "b")

    def refused(self, call, error, question, field):
        with self.assertRaises(error) as caught:
            call(self.book, question)
        self.assertEqual(list(vars(caught.exception).values()), [field], str(question))

    def test_free(self):
        for call in (holds_everywhere, holds_somewhere):
            for question in (self.wrong, Everybody("a", self.wrong), Somebody("b", AtLeast(1, "c", self.wrong)), TRUE):
                self.refused(call, NotSuch, question, "free")

    def test_shape(self):
        both = Somebody("b", self.wrong)
        for question in (
            Everybody("a", both), AtLeast(1, "a", both), Not(Everybody("a", both)), And(Somebody("a", both), Everybody("a", both)),
            Everybody("b", AtLeast(2, "a", self.wrong)), Somebody("b", Not(Somebody("a", self.wrong))),
        ):
            for call in (holds_everywhere, holds_somewhere):
                self.refused(call, NotSuch, question, "shape")
        for question in (Somebody("a", both), Somebody("a", Everybody("b", self.wrong))):
            self.refused(holds_everywhere, NotSuch, question, "shape")
            self.refused(holds_somewhere, OtherTie, question, 2)

    def test_ties(self):
        question = Everybody("a", Everybody("b", Or(TRUE, And(TieIs("a", 3, "b"), self.wrong))))
        self.refused(holds_everywhere, OtherTie, question, 3)
        self.refused(holds_somewhere, OtherTie, question, 3)


class TestThrees(unittest.TestCase):
    def test_three_question(self):
        for backs in BACKS[:6]:
            for three in classes(backs) + [(1, 0, 1), (0, 1, 1)]:
                question = three_question(*three)
                self.assertEqual((question.free, is_universal(question)), ((), True))
                for count in range(4):
                    for rows in all_rows(backs, count):
                        expected = first_barred(backs, closed(backs, [three]), rows) is None
                        self.assertIs(meaning_of(question, company(backs, rows), ()), expected)

    def test_no_ties(self):
        for tie in (4, -1, True, False, None, "0", 0.0):
            for told in ((tie, 0, 0), (0, tie, 0), (0, 0, tie), (9, tie, 9)):
                with self.assertRaises(BadQuestion) as caught:
                    three_question(*told)
                self.assertEqual(caught.exception.what, "tie")
        self.assertEqual(three_question(3, 3, 3).size, 9)

    def test_barred_exactly_if_it_holds_everywhere(self):
        for book in all_books((0, 1)) + all_books((1, 0)) + all_books((0, 2, 1))[::17]:
            for three in {reading for kind in classes(book.ties.backs) for reading in closed(book.ties.backs, [kind])}:
                found = holds_everywhere(book, three_question(*three))
                self.assertEqual(found is None, three in book.barred)

    def test_book_questions(self):
        for book in all_books((0, 1)) + all_books((1, 0)) + all_books((0, 2, 1))[::17]:
            backs = book.ties.backs
            questions = book_questions(book)
            self.assertIs(type(questions), tuple)
            self.assertEqual(questions, tuple(three_question(*three) for three in book.least_barred))
            for count in range(4):
                for rows in all_rows(backs, count):
                    told = company(backs, rows)
                    self.assertEqual(
                        all(meaning_of(question, told, ()) for question in questions),
                        first_barred(backs, set(book.barred), rows) is None)


if __name__ == "__main__":
    unittest.main()
