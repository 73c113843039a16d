"""What the document promises over the whole program: companies, halls, answers, papers and situations agree."""

import random
import unittest
from itertools import combinations, product

from asking import kind, random_question, walked
from halls import COUPLES, FOUR, FREE, OTHER_FOUR, THREE, WIDE, grown, joined_books, random_company, tie_of
from joinedguests.answers import answer_of
from joinedguests.book import Book
from joinedguests.counts import how_many
from joinedguests.errors import Full
from joinedguests.fullness import is_full
from joinedguests.growing import finish
from joinedguests.hall import Hall
from joinedguests.leading import lead_all, lead_on, seat_company, zigzag
from joinedguests.meaning import meaning_of
from joinedguests.merging import Merged, merge
from joinedguests.papers import paper_fault, paper_of
from joinedguests.parting import parting_question
from joinedguests.questiontext import parse_question, question_text
from joinedguests.situations import all_situations, plain_form, yes_of
from joinedguests.ties import Ties
from joinedguests.verdict import Strict, verdict_of
from joinedguests.wheels import least_wheel
from oracle import all_books


class TestMergedCompaniesSit(unittest.TestCase):
    def agreeing(self, chance, book):
        """Two companies that agree: parts of one company, or companies of unlike guests with one guest in common."""
        whole = random_company(chance, book, 6 if book.ties.many == 2 else 4)
        labels = list(whole.guests)
        one = whole.part_of(chance.sample(labels, chance.randint(0, len(labels))))
        other = whole.part_of(chance.sample(labels, chance.randint(0, len(labels))))
        if chance.random() < 0.6:
            # The outsiders of other get labels of their own, so that they may be made one with guests of one.
            new = {label: label if label in one and chance.random() < 0.6 else 100 + label for label in other}
            other = other.renamed(list(new.items()))
        return one, other

    def test_strict_and_not(self):
        chance = random.Random(1)
        made_one = 0
        for book in joined_books() * 6:
            one, other = self.agreeing(chance, book)
            merged = merge(book, one, other)
            self.assertIs(type(merged), Merged)
            self.assertTrue(book.lets(merged.company))
            if verdict_of(book) == Strict():
                self.assertEqual(merged.made_one, ())
            hall = grown(chance, book, 3)
            seats = dict(zip(merged.company.guests, seat_company(hall, merged.company)))
            self.assertEqual(len(set(seats.values())), len(merged.company))
            for part in (one, other):
                for x, y in combinations(part.guests, 2):
                    hosts = [seats[merged.host_of(label)] for label in (x, y)]
                    self.assertEqual(tie_of(hall.company, *hosts), tie_of(part, x, y))
            made_one += len(merged.made_one)
        self.assertTrue(made_one > 10, made_one)


class TestAnswersInHalls(unittest.TestCase):
    def questions(self, chance, book, names, many, **more):
        return [random_question(chance, names, book.ties.many, chance.randint(1, 10), **more) for _ in range(many)]

    def test_whole_halls(self):
        """In a whole hall a question means what is answered, AtLeast included."""
        chance = random.Random(2)
        for book in (FOUR, OTHER_FOUR, THREE):
            hall = finish(book)
            for question in self.questions(chance, book, "abc", 60, width=4):
                for labels in product(hall, repeat=len(question.free)):
                    naming = list(zip(question.free, labels))
                    yes = answer_of(book, question, hall.company, naming)
                    self.assertIs(meaning_of(question, hall.company, naming), yes)
                    if not any(kind(part) == "AtLeast" for part in walked(question)):
                        paper = paper_of(book, question, hall.company, naming)
                        self.assertEqual(paper[0], "yes" if yes else "no")
                        self.assertIsNone(paper_fault(book, question, hall.company, naming, paper))
                    if question.free and len(question.free) < 4:
                        plain = plain_form(book, question)
                        self.assertIs(meaning_of(plain, hall.company, naming), yes)

    def test_whole_halls_have_as_many_as_are_told(self):
        for book in (FOUR, OTHER_FOUR, THREE):
            hall = finish(book)
            for count in range(3):
                for lot in combinations(hall, count):
                    part = hall.company.part_of(lot)
                    for row in book.lawful_rows(part):
                        met = hall.who_meet(lot, row)
                        self.assertEqual(len(met), how_many(book, part, row).number)
                        with self.assertRaises(Full):
                            hall.another(lot, row, met)

    def test_a_full_company_in_a_hall(self):
        """A 2-full wheel, seated in a hall, answers questions of three names as halls do."""
        chance = random.Random(3)
        for book in (FREE, Book(Ties((0, 1)), [(0, 0, 0)])):
            wheel = least_wheel(book, 2, 13)
            if wheel is None:
                continue
            hall = Hall(book)
            labels = seat_company(hall, wheel.company)
            part = hall.company.part_of(labels)
            self.assertTrue(is_full(book, part, 2))
            asked = 0
            for question in self.questions(chance, book, "ab", 150, width=3, depth=2):
                if not any(kind(told) == "AtLeast" for told in walked(question)):
                    asked += 1
                    naming = [(name, chance.choice(labels)) for name in question.free]
                    self.assertIs(meaning_of(question, part, naming), answer_of(book, question, hall.company, naming))
            self.assertTrue(asked > 40, asked)

    def test_led_guests_answer_alike(self):
        """Guests led from hall to hall answer each question as the guests from whom they were led."""
        chance = random.Random(4)
        for book in joined_books() + [COUPLES, WIDE]:
            one, other = grown(chance, book, 4), grown(chance, book, 4)
            pairs = lead_all(one, other) if chance.random() < 0.5 else zigzag(one, other, 5)
            if not pairs:
                continue
            width = 4 if book.ties.many == 2 else 3
            for question in self.questions(chance, book, "ab", 4, width=width, depth=2):
                chosen = {name: chance.choice(pairs) for name in question.free}
                ones = [(name, first) for name, (first, _) in chosen.items()]
                others = [(name, second) for name, (_, second) in chosen.items()]
                yes = answer_of(book, question, one.company, ones)
                self.assertIs(answer_of(book, question, other.company, others), yes)

    def test_situations_and_halls(self):
        """A naming in a hall is answered as the situation to which it is alike."""
        chance = random.Random(5)
        for book in joined_books():
            hall = grown(chance, book, 5)
            width = 4 if book.ties.many == 2 else 3
            for question in self.questions(chance, book, "ab", 3, width=width, depth=2):
                if not len(hall):
                    continue
                named = {name: chance.choice(list(hall)) for name in question.free}
                order = list(dict.fromkeys(named.values()))
                seats = tuple((name, order.index(label)) for name, label in named.items())
                part = hall.company.part_of(order).renamed([(label, at) for at, label in enumerate(order)])
                self.assertIn((part, seats), list(all_situations(book, question.free)))
                yes = answer_of(book, question, hall.company, list(named.items()))
                self.assertIs((part, seats) in yes_of(book, question), yes)

    def test_texts_keep_answers(self):
        chance = random.Random(6)
        for book in joined_books()[::2]:
            told = random_company(chance, book, 4)
            if len(told):
                for question in self.questions(chance, book, "ab", 3, width=3, depth=2):
                    naming = [(name, chance.choice(told.guests)) for name in question.free]
                    read = parse_question(question_text(question))
                    self.assertIs(answer_of(book, read, told, naming), answer_of(book, question, told, naming))


class TestPartedInHalls(unittest.TestCase):
    def test_guests_that_are_not_parted_can_be_led(self):
        """Two guests of whole halls are never parted; guests with other ties to a third one are at once."""
        for book in (FOUR, OTHER_FOUR, THREE):
            hall = finish(book).company
            for x, y in product(hall.guests, repeat=2):
                for depth in range(3):
                    self.assertIsNone(parting_question(hall, [("a", x)], hall, [("a", y)], depth))
            for (x, y), (u, v) in product(list(product(hall.guests, repeat=2)), repeat=2):
                alike = (x == y) == (u == v) and (x == y or tie_of(hall, x, y) == tie_of(hall, u, v))
                found = parting_question(hall, [("a", x), ("b", y)], hall, [("a", u), ("b", v)], 2)
                self.assertEqual(found is None, alike)

    def test_a_hall_led_by_any_pair(self):
        """Each guest of a hall can be led to each guest of another one."""
        for book in [book for book in all_books((0, 1)) + all_books((1, 0)) if verdict_of(book).KIND != "clash"]:
            one, other = grown(random.Random(7), book, 3), grown(random.Random(8), book, 3)
            for guest, label in product(list(one), list(other)):
                pairs = [(guest, label)]
                for further in one:
                    if further != guest:
                        pairs.append((further, lead_on(one, other, pairs, further)))
                for (a, x), (b, y) in combinations(pairs, 2):
                    self.assertEqual(tie_of(one.company, a, b), tie_of(other.company, x, y))


if __name__ == "__main__":
    unittest.main()
