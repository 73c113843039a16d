"""[7.6], [7.7], [7.10]: situations."""

import random
import unittest

from asking import answer, kind, random_question, walked
from halls import CLASHES, COUPLES, FOUR, FREE, THREE, WIDE, joined_books
from joinedguests.answers import answer_of
from joinedguests.book import Book
from joinedguests.clashjudge import clash_fault
from joinedguests.company import Company
from joinedguests.errors import BadNames, NoHall, OtherTie, Sentence, TooMany
from joinedguests.papers import paper_of
from joinedguests.questions import And, AtLeast, Everybody, Not, Or, Same, Somebody, TieIs
from joinedguests.situations import all_situations, follows, plain_form, same_answers, yes_of
from joinedguests.ties import Ties
from oracle import BACKS, all_books, let_rows

Q = TieIs("a", 0, "b")


def plain_situations(book, names):
    """All situations as (labels, rows), in order: labels that first come in ascending order."""
    found = [()]
    for _ in names:
        found = [labels + (label,) for labels in found for label in range(9) if label <= max(labels, default=-1) + 1]
    return [
        (labels, rows) for labels in sorted(found)
        for rows in let_rows(book.ties.backs, book.barred, max(labels, default=-1) + 1)]


def told_of(book, names, situation):
    labels, rows = situation
    return Company(book.ties, list(range(len(rows))), rows), tuple(zip(names, labels))


def plain_yes(book, question, names):
    """The situations of names in which the question is answered yes."""
    return [
        (labels, rows) for labels, rows in plain_situations(book, names)
        if answer(question, book.ties.backs, set(book.barred), rows, dict(zip(names, labels)))]


class SituationCase(unittest.TestCase):
    def random_questions(self, chance, book, many):
        """Questions of at most three free names, promised for this book."""
        found = []
        while len(found) < many:
            names = "abc"[:chance.randint(1, 3)]
            width = 4 if book.ties.many == 2 else 3
            question = random_question(chance, names, book.ties.many, chance.randint(1, 10), depth=2, width=width)
            if len(question.free) < 3 or book.ties.many < 4:
                found.append(question)
        return found


class TestAllSituations(SituationCase):
    def test_in_order(self):
        books = all_books((0, 1)) + all_books((1, 0)) + all_books((0, 2, 1))[::11] + [Book(Ties(backs)) for backs in BACKS]
        for book in books:
            for names in ((), ("a",), ["b", "a"], ("x", "guest", "b")):
                found = list(all_situations(book, names))
                self.assertEqual(found, [told_of(book, names, told) for told in plain_situations(book, names)])
                for told in found:
                    self.assertEqual((type(told), type(told[0]), type(told[1])), (tuple, Company, tuple))
                    self.assertTrue(all(type(pair) is tuple for pair in told[1]))

    def test_by_hand(self):
        ties = Ties((0, 1))
        nobody, one = Company(ties), Company(ties, (0,), ((),))
        self.assertEqual(list(all_situations(CLASHES, ())), [(nobody, ())])
        self.assertEqual(list(all_situations(CLASHES, ["q"])), [(one, (("q", 0),))])
        self.assertEqual(list(all_situations(FREE, ("b", "a"))), [
            (one, (("b", 0), ("a", 0))), (Company(ties, (0, 1), ((), (0,))), (("b", 0), ("a", 1))),
            (Company(ties, (0, 1), ((), (1,))), (("b", 0), ("a", 1)))])
        labels = [tuple(label for _, label in naming) for _, naming in all_situations(FREE, "a b c".split())]
        self.assertEqual(sorted(set(labels)), [(0, 0, 0), (0, 0, 1), (0, 1, 0), (0, 1, 1), (0, 1, 2)])
        self.assertEqual(labels, sorted(labels))

    def test_refused(self):
        for names, index, what in [
            (["a", "A"], 1, "name"), ([None], 0, "name"), (["a", "", "a"], 1, "name"), (["a", "b", "a", 3], 2, "double"),
            (["a", "a"], 1, "double"), (["toolong"], 0, "name"), (["a", "b", "c", "d", "d"], 4, "double"), ([True], 0, "name"),
            (["a", ["a"]], 1, "name"),
        ]:
            with self.assertRaises(BadNames) as caught:
                list(all_situations(CLASHES, names))
            self.assertEqual((caught.exception.index, caught.exception.what), (index, what))
        for names in ("abcd", "abcdefgh"):
            with self.assertRaises(TooMany) as caught:
                list(all_situations(CLASHES, list(names)))
            self.assertEqual(caught.exception.count, len(names))


class TestYesOf(SituationCase):
    def test_random_questions(self):
        chance = random.Random(1)
        for book in joined_books():
            for question in self.random_questions(chance, book, 4):
                found = yes_of(book, question)
                self.assertIs(type(found), tuple)
                self.assertEqual(list(found), [
                    told_of(book, question.free, told) for told in plain_yes(book, question, question.free)])

    def test_sentences(self):
        nobody = Company(Ties((0, 1)))
        some = Somebody("a", Somebody("b", Q))
        self.assertEqual(yes_of(FREE, some), ((nobody, ()),))
        self.assertEqual(yes_of(FREE, Not(some)), ())
        self.assertEqual(yes_of(Book(Ties((0, 1)), [(0, 0, 0), (0, 0, 1)]), Everybody("a", AtLeast(2, "b", Q))), ())

    def test_answers_papers_and_situations_agree(self):
        chance = random.Random(2)
        for book in joined_books()[::2]:
            for question in self.random_questions(chance, book, 2):
                yes = yes_of(book, question)
                for told in all_situations(book, question.free):
                    self.assertIs(answer_of(book, question, *told), told in yes)
                    if not any(kind(part) == "AtLeast" for part in walked(question)):
                        self.assertEqual(paper_of(book, question, *told)[0], "yes" if told in yes else "no")


class TestPlainForm(SituationCase):
    def check(self, book, question):
        found = plain_form(book, question)
        self.assertTrue(found.is_plain)
        self.assertFalse(any(kind(part) in ("Somebody", "Everybody", "AtLeast") for part in walked(found)))
        self.assertTrue(set(found.free) <= set(question.free))
        self.assertTrue(found.size <= 200)
        for labels, rows in plain_situations(book, question.free):
            seats = dict(zip(question.free, labels))
            backs, barred = book.ties.backs, set(book.barred)
            self.assertIs(answer(found, backs, barred, rows, seats), answer(question, backs, barred, rows, seats))
        return found

    def test_random_questions(self):
        chance = random.Random(3)
        for book in joined_books():
            for question in self.random_questions(chance, book, 4):
                if question.free:
                    self.check(book, question)

    def test_long_ones(self):
        """Questions of three names whose answers look like chance, also with four ties."""
        chance = random.Random(4)
        longest = 0
        for backs in BACKS:
            book = Book(Ties(backs))
            for _ in range(4):
                parts = []
                for _ in range(18):
                    x, y, z = (chance.sample("abc", 3))
                    atom = And(TieIs(x, chance.randrange(len(backs)), y), TieIs(y, chance.randrange(len(backs)), z))
                    parts.append(atom if chance.random() < 0.5 else And(atom, TieIs(x, chance.randrange(len(backs)), z)))
                question = parts[0]
                for part in parts[1:]:
                    question = Or(question, part) if chance.random() < 0.7 else Or(question, Not(part)) & ~part
                longest = max(longest, self.check(book, question).size)
        self.assertTrue(longest > 60, longest)

    def test_the_longest(self):
        """With four ties no table of answers needs more than 200 subquestions."""
        chance = random.Random(5)
        for backs in ((0, 1, 2, 3), (1, 0, 3, 2), (0, 1, 3, 2)):
            book = Book(Ties(backs))
            # Most ties of the third couple are a yes, so that they are all told.
            parts = []
            for s in range(4):
                for t in range(4):
                    one = And(TieIs("a", s, "b"), TieIs("a", t, "c"))
                    parts.append(And(one, Not(TieIs("b", chance.randrange(4), "c"))))
            question = parts[0]
            for part in parts[1:]:
                question = Or(question, part)
            self.check(book, question)

    def test_by_hand(self):
        self.assertEqual(str(plain_form(FREE, Same("b", "b"))), "b=b")
        self.assertEqual(str(plain_form(FREE, Not(Same("b", "b")))), "not b=b")
        self.assertEqual(str(plain_form(FREE, Somebody("b", Q))), "a=a")
        self.assertEqual(str(plain_form(COUPLES, AtLeast(2, "b", Q))), "not a=a")
        self.check(COUPLES, Somebody("p", And(TieIs("p", 0, "a"), TieIs("p", 0, "b"))))
        self.check(FOUR, Somebody("p", And(TieIs("p", 1, "a"), And(TieIs("p", 1, "b"), TieIs("p", 1, "c")))))
        self.check(THREE, Somebody("p", And(TieIs("p", 1, "a"), TieIs("p", 0, "b"))))

    def test_a_wider_body(self):
        question = Somebody("d", And(And(TieIs("a", 0, "d"), TieIs("b", 0, "d")), TieIs("c", 1, "d")))
        self.assertEqual(question.width, 4)
        for book in (FREE, COUPLES, FOUR):
            self.check(book, question)


class TestCompared(SituationCase):
    def test_random_questions(self):
        chance = random.Random(6)
        counts = {}
        for book in joined_books():
            questions = self.random_questions(chance, book, 4)
            for one in questions:
                for other in [*questions[:2], Or(one, questions[0])] if one.width < 4 else questions[:2]:
                    names = tuple(sorted({*one.free, *other.free}))
                    if len(names) > 2 and book.ties.many > 3:
                        continue
                    yes, other_yes = (plain_yes(book, question, names) for question in (one, other))
                    differ = [told for told in plain_situations(book, names) if (told in yes) != (told in other_yes)]
                    fails = [told for told in yes if told not in other_yes]
                    for found, expected in [(same_answers(book, one, other), differ), (follows(book, one, other), fails)]:
                        if not expected:
                            self.assertIsNone(found)
                        else:
                            self.assertEqual(found, told_of(book, names, expected[0]))
                        counts[bool(expected)] = counts.get(bool(expected), 0) + 1
        self.assertTrue(min(counts.values()) > 200, counts)

    def test_by_hand(self):
        one = Company(Ties((0, 1)), (0,), ((),))
        self.assertIsNone(same_answers(FREE, Q, TieIs("b", 0, "a")))
        self.assertEqual(same_answers(FREE, Q, Not(TieIs("a", 1, "b"))), (one, (("a", 0), ("b", 0))))
        self.assertIsNone(follows(FREE, Q, Not(TieIs("a", 1, "b"))))
        self.assertEqual(follows(FREE, Not(TieIs("a", 1, "b")), Q), (one, (("a", 0), ("b", 0))))
        # The names that are free in one of them alone are names of the situation, too.
        found = follows(FREE, Same("a", "a"), TieIs("b", 1, "a"))
        self.assertEqual(found, (one, (("a", 0), ("b", 0))))
        found = same_answers(FREE, Same("z", "z"), Or(Q, Not(Q)))
        self.assertIsNone(found)
        nobody = Company(Ties((0, 1)))
        self.assertEqual(same_answers(FREE, Somebody("a", Same("a", "a")), Everybody("a", Not(Same("a", "a")))), (nobody, ()))

    def test_plain_forms_have_the_same_answers(self):
        chance = random.Random(7)
        for book in joined_books()[::2]:
            for question in self.random_questions(chance, book, 2):
                if question.free:
                    self.assertIsNone(same_answers(book, question, plain_form(book, question)))
                    self.assertIsNone(follows(book, plain_form(book, question), question))


class TestRefused(SituationCase):
    def test_in_order(self):
        four = And(TieIs("a", 3, "b"), TieIs("c", 2, "d"))
        for call in (
            lambda book, question: yes_of(book, question), lambda book, question: plain_form(book, question),
            lambda book, question: same_answers(book, question, TieIs("a", 2, "b")),
            lambda book, question: follows(book, question, TieIs("a", 2, "b")),
        ):
            with self.assertRaises(NoHall) as caught:
                call(CLASHES, four)
            self.assertIsNone(clash_fault(CLASHES, caught.exception.clash))
            with self.assertRaises(OtherTie) as caught:
                call(FREE, four)
            self.assertEqual(caught.exception.tie, 3)
        for call in (same_answers, follows):
            # The ties of one, then those of other, then the names.
            with self.assertRaises(OtherTie) as caught:
                call(FREE, And(Q, Same("c", "d")), four)
            self.assertEqual(caught.exception.tie, 3)
            with self.assertRaises(TooMany) as caught:
                call(FREE, And(Q, Same("c", "d")), TieIs("e", 1, "f"))
            self.assertEqual(caught.exception.count, 6)
            with self.assertRaises(TooMany) as caught:
                call(FREE, Q, TieIs("c", 1, "d"))
            self.assertEqual(caught.exception.count, 4)
        for call in (yes_of, plain_form):
            with self.assertRaises(TooMany) as caught:
                call(FREE, And(Q, Same("c", "d")))
            self.assertEqual(caught.exception.count, 4)

    def test_wider_questions(self):
        """The errors are raised for questions of any width."""
        wide = And(And(Q, TieIs("b", 1, "c")), TieIs("c", 0, "d"))
        for book in (WIDE, Book(Ties((0, 1, 2, 3)))):
            for call in (yes_of, plain_form):
                with self.assertRaises(TooMany) as caught:
                    call(book, wide)
                self.assertEqual(caught.exception.count, 4)
            with self.assertRaises(OtherTie):
                yes_of(WIDE, And(wide, TieIs("a", 3, "a")))
        with self.assertRaises(NoHall):
            yes_of(CLASHES, wide)

    def test_sentence_comes_last(self):
        sentence = Somebody("a", TieIs("a", 3, "a"))
        with self.assertRaises(NoHall):
            plain_form(CLASHES, sentence)
        with self.assertRaises(OtherTie):
            plain_form(FREE, sentence)
        for book in (FREE, WIDE):
            with self.assertRaises(Sentence):
                plain_form(book, Somebody("a", TieIs("a", 1, "a")))


if __name__ == "__main__":
    unittest.main()
