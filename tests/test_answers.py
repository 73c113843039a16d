"""[7.4], [7.5], [7.10]: what halls answer."""

import random
import unittest

from asking import answer, cases, endless, holds, random_question, together
from joinedguests.answers import answer_of, count_yes, yes_rows
from joinedguests.book import Book
from joinedguests.clashjudge import clash_fault
from joinedguests.company import Company
from joinedguests.errors import BadName, BadNaming, NoGuest, NoHall, NotLet, OtherTie, OtherTies, TooWide, Unnamed
from joinedguests.meaning import meaning_of
from joinedguests.questions import And, AtLeast, Everybody, Not, Or, Same, Somebody, TieIs
from joinedguests.ties import Ties
from joinedguests.verdict import joins
from oracle import all_books, chain, company, fine, lawful, let_rows

Q = TieIs("a", 0, "b")
TRUE = Same("a", "a")
CLASHES = Book(Ties((0, 1)), [(0, 0, 0), (1, 1, 1)])
# Each guest has at most one other with tie 0: couples of guests.
COUPLES = Book(Ties((0, 1)), [(0, 0, 1), (0, 0, 0)])
# No tie is a row tie, and three ties are fine over nobody.
WIDE = Book(Ties((1, 0, 2)), [(0, 0, 0), (0, 0, 2), (0, 2, 2), (2, 2, 2)])


def joined_books():
    books = all_books((0, 1)) + all_books((1, 0)) + all_books((0, 2, 1)) + all_books((0, 1, 2))[::7]
    books += [WIDE, Book(Ties((0, 1, 2, 3))), Book(Ties((0, 1, 3, 2)))]
    return [book for book in books if joins(book)]


def random_case(chance, books, **more):
    """A book, a let company, a question, and the place of a guest for each name."""
    book = chance.choice(books)
    backs, barred = book.ties.backs, set(book.barred)
    rows = ()
    for _ in range(chance.randint(1, 4)):
        news = lawful(backs, barred, rows)
        if news:
            rows += (chance.choice(news),)
    many = book.ties.many
    names = "abc"[:chance.randint(1, 3)] if many == 2 else "ab"[:chance.randint(1, 2)]
    question = random_question(chance, names, many, chance.randint(1, 12), width=4 if many == 2 else 3, **more)
    # Two names often have one guest.
    seats = {name: chance.randrange(len(rows)) for name in names}
    return book, company(backs, rows, sorted(chance.sample(range(9), len(rows)))), question, seats


def naming_of(told, seats):
    return [(name, told.guests[place]) for name, place in seats.items()]


class TestAnswers(unittest.TestCase):
    def test_random_questions(self):
        chance = random.Random(1)
        books = joined_books()
        counts = {}
        for _ in range(2000):
            book, told, question, seats = random_case(chance, books)
            expected = answer(question, book.ties.backs, set(book.barred), told.rows, seats)
            found = answer_of(book, question, told, naming_of(told, seats))
            self.assertIs(found, expected, (str(question), book.least_barred, told.rows, seats))
            key = (question.depth, question.width, expected)
            counts[key] = counts.get(key, 0) + 1
        self.assertTrue({(depth, width, yes) for depth in (1, 2) for width in (2, 3, 4) for yes in (True, False)}
                        <= set(counts))

    def test_each_class_by_hand(self):
        told = Company(Ties((0, 1)), (3, 5, 8), ((), (0,), (1, 1)))
        naming = (("a", 3), ("b", 5), ("c", 8), ("d", 5))
        for question, expected in [
            (Q, True), (TieIs("a", 1, "b"), False), (TieIs("a", 1, "c"), True), (TieIs("b", 0, "d"), False),
            (Same("b", "d"), True), (Same("a", "b"), False), (Not(Q), False), (And(Q, Same("b", "d")), True),
            (And(Q, Same("a", "d")), False), (Or(Same("a", "d"), Q), True), (Or(Same("a", "d"), Same("a", "b")), False),
            # Nobody else has tie 0 to a, many have tie 1.
            (Somebody("b", And(TieIs("a", 0, "b"), Not(Same("b", "d")))), False),
            (AtLeast(1, "b", TieIs("a", 0, "b")), True), (AtLeast(2, "b", TieIs("a", 0, "b")), False),
            (AtLeast(5, "b", TieIs("a", 1, "b")), True), (Everybody("b", Or(TieIs("a", 1, "b"), Q)), False),
            (Everybody("b", Or(TieIs("a", 1, "b"), Or(Q, Same("a", "b")))), True),
            (Everybody("c", Somebody("p", TieIs("c", 0, "p"))), True),
            (Everybody("c", AtLeast(2, "p", TieIs("c", 0, "p"))), False),
        ]:
            self.assertIs(answer_of(COUPLES, question, told, naming), expected, str(question))

    def test_named_guests_that_are_one(self):
        told = chain((0, 1), 0, [4, 7])
        some = Somebody("p", And(TieIs("p", 0, "a"), TieIs("p", 1, "b")))
        book = Book(Ties((0, 1)))
        self.assertIs(answer_of(book, some, told, (("a", 4), ("b", 7))), True)
        self.assertIs(answer_of(book, some, told, (("a", 4), ("b", 4))), False)

    def test_other_guests_and_labels_mean_nothing(self):
        chance = random.Random(2)
        books = joined_books()
        for _ in range(300):
            book, told, question, seats = random_case(chance, books)
            naming = naming_of(told, seats)
            expected = answer_of(book, question, told, naming)
            named = [told.guests[seats[name]] for name in question.free]
            self.assertIs(answer_of(book, question, told.part_of(named), naming), expected)
            labels = chance.sample(range(100), len(told))
            moved = told.renamed(list(zip(told.guests, labels)))
            new = dict(zip(told.guests, labels))
            self.assertIs(answer_of(book, question, moved, [(name, new[label]) for name, label in naming]), expected)
            more = naming + [("zz", None), ("yy", 77)]
            chance.shuffle(more)
            self.assertIs(answer_of(book, question, told, more), expected)

    def test_the_newcomers_forget_the_other_guests(self):
        # a has a partner, c, who is not named in the inner question.
        told = chain((0, 1), 0, [1, 2])
        self.assertIs(answer_of(COUPLES, Somebody("b", Q), told, (("a", 1),)), True)
        # Over a and c nobody else is a partner of a.
        question = Somebody("b", And(Q, Not(Same("b", "c"))))
        self.assertIs(answer_of(COUPLES, question, told, (("a", 1), ("c", 2))), False)
        self.assertIs(answer_of(COUPLES, question, told, (("a", 1), ("c", 1))), True)

    def test_a_name_that_is_not_free_in_the_body(self):
        told = chain((0, 1), 0, [1, 2])
        for cls in (Somebody, Everybody):
            self.assertIs(answer_of(COUPLES, cls("p", Q), told, (("a", 1), ("b", 2))), True)
            self.assertIs(answer_of(COUPLES, cls("p", Q), told, (("a", 1), ("b", 1))), False)
        # AtLeast counts all guests then: those of a finite hall, or endlessly many.
        for times in range(1, 6):
            self.assertIs(answer_of(COUPLES, AtLeast(times, "p", Q), told, (("a", 1), ("b", 2))), True)
            self.assertIs(answer_of(COUPLES, AtLeast(times, "p", Not(Q)), told, (("a", 1), ("b", 2))), False)
            small = Book(Ties((0, 1)), [(0, 0, 0), (1, 1, 1), (0, 0, 1)])
            self.assertIs(answer_of(small, AtLeast(times, "p", Q), told, (("a", 1), ("b", 2))), times <= 4)

    def test_at_least_with_numbers_and_endless_rows(self):
        for book, tie, number in [
            (Book(Ties((0, 1, 2)), [
                (0, 0, 0), (0, 1, 1), (0, 1, 2), (0, 2, 2), (1, 1, 1), (1, 2, 2), (2, 2, 2)]), 0, 4),
            (Book(Ties((0, 2, 1)), [(0, 0, 0), (0, 1, 1), (0, 1, 2), (0, 2, 2), (1, 1, 1)]), 0, 3),
            (WIDE, 0, 2), (WIDE, 2, 1), (COUPLES, 0, 1), (COUPLES, 1, 5),
        ]:
            told = chain(book.ties.backs, tie, [6])
            for times in range(1, 6):
                question = AtLeast(times, "b", TieIs("b", tie, "a"))
                self.assertIs(answer_of(book, question, told, (("a", 6),)), times <= number, (number, times))
                # Named guests that answer yes are counted besides.
                question = AtLeast(times, "b", Or(TieIs("b", tie, "a"), Same("a", "b")))
                self.assertIs(answer_of(book, question, told, (("a", 6),)), times <= number + 1)

    def test_at_least_with_wide_rows(self):
        # how_many does not tell these numbers, but they matter up to the times alone.
        nobody = Company(WIDE.ties)
        most = together(WIDE.ties.backs, set(WIDE.barred), (), 5)
        self.assertGreater(most, 2)
        for times in range(1, 6):
            question = AtLeast(times, "a", TRUE)
            self.assertIs(answer_of(WIDE, question, nobody, ()), times <= most)

    def test_finite_halls(self):
        """The whole halls of two ties without a row tie: meanings there are the answers."""
        chance = random.Random(3)
        halls = [(book, whole_hall(book)) for book in joined_books() if is_finite(book)]
        self.assertGreater(len(halls), 2)
        for book, hall in halls:
            for _ in range(120):
                names = "abc"[:chance.randint(1, 3)]
                question = random_question(chance, names, 2, chance.randint(1, 12))
                naming = [(name, chance.choice(hall.guests)) for name in names]
                self.assertIs(
                    answer_of(book, question, hall, naming), meaning_of(question, hall, naming), str(question))

    def test_full_companies(self):
        """Thirteen guests in a ring, 2-full: questions of width 3 without AtLeast are answered as in halls."""
        steps = [0 if k in (1, 3, 4, 9, 10, 12) else 1 for k in range(1, 13)]
        ring = Company(Ties((0, 1)), list(range(13)), [[steps[(i - j) % 13 - 1] for i in range(j)] for j in range(13)])
        book = Book(Ties((0, 1)))
        chance = random.Random(4)
        seen = {True: 0, False: 0}
        while min(seen.values()) < 60:
            names = "abc"[:chance.randint(1, 3)]
            question = random_question(chance, names, 2, chance.randint(2, 12), width=3)
            if "least" in str(question):
                continue
            naming = [(name, chance.choice(ring.guests)) for name in names]
            found = answer_of(book, question, ring, naming)
            self.assertIs(found, meaning_of(question, ring, naming), str(question))
            seen[found] += 1

    def test_fifty_guests(self):
        told = chain((0, 1), 1, list(range(50)))
        question = Somebody("c", And(TieIs("c", 0, "a"), TieIs("c", 1, "b")))
        self.assertIs(answer_of(COUPLES, question, told, (("a", 3), ("b", 49))), True)
        self.assertIs(answer_of(COUPLES, question, told, (("a", 49), ("b", 49))), False)


def is_finite(book):
    return book.ties.many == 2 and (0, 0, 0) in book.barred and (1, 1, 1) in book.barred


def whole_hall(book):
    """The company in which every lawful row over any of its guests is met, for a book that is_finite."""
    for count in range(1, 7):
        for rows in let_rows(book.ties.backs, book.barred, count):
            told = company(book.ties.backs, rows)
            if all(is_met(told, labels, row) for labels in all_lots(told)
                   for row in lawful(book.ties.backs, set(book.barred), told.part_of(labels).rows)):
                return told
    return None


def all_lots(told):
    return [[label for label in told if chosen >> label & 1] for chosen in range(2 ** len(told))]


def is_met(told, labels, row):
    return any(
        tuple(told.tie_of(label, other) for other in labels) == row for label in told if label not in labels)


class TestYesRows(unittest.TestCase):
    def expected(self, book, told, question, seats, name):
        backs, barred = book.ties.backs, set(book.barred)
        known, new = cases(question, name, backs, barred, told.rows, seats)
        return (
            tuple(told.guests[place] for place, yes in known if yes), tuple(row for row, yes in new if yes))

    def counted(self, book, labels, rows):
        backs, barred = book.ties.backs, set(book.barred)
        if any(endless(backs, barred, row) is not None for row in rows):
            return None
        if any(len(fine(backs, barred, row, row)) > 2 for row in rows):
            return "wide"
        return len(labels) + sum(together(backs, barred, row, 6) for row in rows)

    def test_random_questions(self):
        chance = random.Random(5)
        books = joined_books()
        seen = {}
        for _ in range(700):
            book, told, question, seats = random_case(chance, books)
            name = chance.choice("abcp")
            naming = naming_of(told, seats)
            if chance.random() < 0.5:
                naming = [pair for pair in naming if pair[0] != name]
            expected = self.expected(book, told, question, seats, name)
            self.assertEqual(yes_rows(book, question, told, naming, name), expected, (str(question), name))
            count = self.counted(book, *expected)
            seen[count] = seen.get(count, 0) + 1
            if count == "wide":
                with self.assertRaises(TooWide):
                    count_yes(book, question, told, naming, name)
                continue
            self.assertEqual(count_yes(book, question, told, naming, name), count)
            for times in range(1, 6):
                try:
                    least = AtLeast(times, name, question)
                except ValueError:
                    continue
                self.assertIs(
                    answer_of(book, least, told, naming), count is None or count >= times, (str(least), count))
        self.assertGreater(seen[None], 100)
        self.assertTrue({0, 1, 2, 3, 4, "wide"} <= set(seen), seen)

    def test_by_hand(self):
        told = chain((0, 1), 1, [2, 5])
        naming = (("a", 2), ("c", 5))
        question = Or(TieIs("a", 0, "b"), Same("b", "c"))
        self.assertEqual(yes_rows(COUPLES, question, told, naming, "b"), ((5,), ((0, 1),)))
        self.assertEqual(count_yes(COUPLES, question, told, naming, "b"), 2)
        self.assertEqual(yes_rows(COUPLES, Not(question), told, naming, "b"), ((2,), ((1, 0), (1, 1))))
        self.assertIsNone(count_yes(COUPLES, Not(question), told, naming, "b"))
        self.assertEqual(count_yes(COUPLES, And(question, Not(question)), told, naming, "b"), 0)

    def test_the_others_alone(self):
        # 2 and 5 have one name, the guest 9 none.
        told = chain((0, 1), 1, [2, 5, 9])
        question = TieIs("a", 0, "b")
        self.assertEqual(yes_rows(COUPLES, question, told, (("a", 9), ("c", 2)), "b"), ((), ((0,),)))
        self.assertEqual(
            yes_rows(COUPLES, And(question, Same("c", "d")), told, (("a", 9), ("c", 9), ("d", 9)), "b"), ((), ((0,),)))

    def test_a_name_that_is_not_free(self):
        told = chain((0, 1), 1, [2, 5])
        for name in ("z", "p"):
            question = Somebody("p", And(Same("p", "a"), TieIs("a", 1, "b")))
            naming = (("a", 2), ("b", 5), (name, None))
            self.assertEqual(
                yes_rows(COUPLES, question, told, naming, name), ((2, 5), ((0, 1), (1, 0), (1, 1))))
            self.assertEqual(yes_rows(COUPLES, Not(question), told, naming, name), ((), ()))
            self.assertIsNone(count_yes(COUPLES, question, told, naming, name))
            self.assertEqual(count_yes(COUPLES, Not(question), told, naming, name), 0)

    def test_endless_ahead_of_too_wide(self):
        # Over nobody there is one row; three ties are fine, one of them is a row tie, or none is.
        nobody = Company(WIDE.ties)
        with self.assertRaises(TooWide):
            count_yes(WIDE, TRUE, nobody, (), "a")
        self.assertIsNone(count_yes(Book(WIDE.ties, [(0, 0, 0)]), TRUE, nobody, (), "a"))
        # A wide row with an endless one behind it.
        book = Book(Ties((2, 1, 0, 3)), [
            (0, 0, 0), (0, 0, 1), (0, 0, 2), (0, 1, 0), (0, 1, 3), (0, 2, 1), (0, 2, 3), (0, 3, 0), (0, 3, 1), (0, 3, 3),
            (1, 1, 1), (1, 3, 3), (3, 3, 3)])
        told = Company(book.ties, (0,), ((),))
        backs, barred = book.ties.backs, set(book.barred)
        rows = lawful(backs, barred, ((),))
        wide = [row for row in rows if len(fine(backs, barred, row, row)) > 2 and endless(backs, barred, row) is None]
        self.assertEqual(wide, [(1,)])
        with self.assertRaises(TooWide):
            count_yes(book, TieIs("b", 1, "a"), told, (("a", 0),), "b")
        self.assertEqual(count_yes(book, Same("b", "a"), told, (("a", 0),), "b"), 1)


class TestErrors(unittest.TestCase):
    def calls(self, book, question, told, naming):
        return (
            lambda: answer_of(book, question, told, naming), lambda: yes_rows(book, question, told, naming, "z"),
            lambda: count_yes(book, question, told, naming, "z"))

    def raised(self, error, book, question, told, naming):
        for call in self.calls(book, question, told, naming):
            with self.assertRaises(error) as caught:
                call()
        return caught.exception

    def test_in_order(self):
        wrong = TieIs("a", 2, "b")
        barred = chain((0, 1), 0, [1, 2, 3])
        self.raised(OtherTies, CLASHES, wrong, chain((0, 1, 2), 0, [1, 2, 3]), None)
        error = self.raised(NoHall, CLASHES, wrong, barred, None)
        self.assertIsNone(clash_fault(CLASHES, error.clash))
        self.assertEqual(self.raised(NotLet, COUPLES, wrong, barred, None).what, "company")
        told = chain((0, 1), 1, [1, 2])
        error = self.raised(BadNaming, COUPLES, wrong, told, (("b", 9), None))
        self.assertEqual((error.index, error.what), (1, "pair"))
        error = self.raised(BadNaming, COUPLES, wrong, told, (("A", 9), ("b", 9)))
        self.assertEqual((error.index, error.what), (0, "name"))
        error = self.raised(BadNaming, COUPLES, wrong, told, (("a", 9), ("a", 9)))
        self.assertEqual((error.index, error.what), (1, "double"))
        self.assertEqual(self.raised(Unnamed, COUPLES, wrong, told, (("a", 9),)).name, "b")
        self.assertEqual(self.raised(NoGuest, COUPLES, wrong, told, (("a", 9), ("b", True))).label, 9)
        self.assertIs(self.raised(NoGuest, COUPLES, wrong, told, (("a", 1), ("b", True))).label, True)
        self.assertEqual(self.raised(OtherTie, COUPLES, wrong, told, (("a", 1), ("b", 2))).tie, 2)
        self.assertEqual(self.raised(OtherTie, COUPLES, Or(Same("a", "a"), wrong), told, (("a", 1), ("b", 2))).tie, 2)

    def test_bad_name(self):
        told = chain((0, 1), 1, [1, 2])
        for name in (None, True, 0, "", "A", "abcdefg", ["a"]):
            for call in (yes_rows, count_yes):
                with self.assertRaises(BadName) as caught:
                    call(COUPLES, TieIs("a", 2, "b"), told, None, name)
                self.assertIs(caught.exception.name, name)
                with self.assertRaises(NotLet):
                    call(COUPLES, Q, chain((0, 1), 0, [1, 2, 3]), (), name)
                with self.assertRaises(NoHall):
                    call(CLASHES, Q, told, (), name)
                with self.assertRaises(OtherTies):
                    call(CLASHES, Q, chain((1, 0), 0, [1]), (), name)

    def test_the_name_may_lack(self):
        told = chain((0, 1), 1, [1, 2])
        for naming in ((("a", 1),), (("b", None), ("a", 1)), (("a", 1), ("b", 99)), (("b", True), ("a", 1))):
            self.assertEqual(yes_rows(COUPLES, Q, told, naming, "b"), ((), ((0,),)))
            self.assertEqual(count_yes(COUPLES, Q, told, naming, "b"), 1)
        for call in (yes_rows, count_yes):
            # All pairs are checked, those of the name too.
            for naming, index, what in [
                ((("a", 1), ("b",)), 1, "pair"), ((("b", 1), ("b", 2), ("a", 1)), 1, "double"), (((0, 1), ("a", 1)), 0, "name"),
            ]:
                with self.assertRaises(BadNaming) as caught:
                    call(COUPLES, Q, told, naming, "b")
                self.assertEqual((caught.exception.index, caught.exception.what), (index, what))
            with self.assertRaises(Unnamed) as caught:
                call(COUPLES, Q, told, (("b", 1),), "b")
            self.assertEqual(caught.exception.name, "a")
            with self.assertRaises(NoGuest) as caught:
                call(COUPLES, Q, told, (("b", 1), ("a", 4)), "b")
            self.assertEqual(caught.exception.label, 4)

    def test_errors_of_wide_questions(self):
        wide = And(And(Q, Same("c", "d")), TieIs("a", 3, "d"))
        book = Book(Ties((0, 1, 2)))
        told = chain((0, 1, 2), 0, [1, 2])
        naming = tuple((name, 1) for name in "abcd")
        self.assertEqual(self.raised(OtherTie, book, wide, told, naming).tie, 3)
        self.assertEqual(self.raised(Unnamed, book, wide, told, naming[:3]).name, "d")
        self.raised(OtherTies, book, wide, chain((0, 1), 0, [1]), naming)

    def test_widths_that_are_promised(self):
        chance = random.Random(6)
        books = [Book(Ties((0, 1))), COUPLES, Book(Ties((0, 1, 2, 3)))]
        widths = set()
        for _ in range(120):
            book, told, question, seats = random_case(chance, books, depth=2)
            widths.add((book.ties.many, question.width))
            naming = naming_of(told, seats)
            self.assertIs(
                answer_of(book, question, told, naming),
                answer(question, book.ties.backs, set(book.barred), told.rows, seats))
            if question.is_plain:
                self.assertIs(
                    answer_of(book, question, told, naming), holds(question, book.ties.backs, told.rows, seats))
        self.assertTrue({(2, 4), (4, 3)} <= widths)


if __name__ == "__main__":
    unittest.main()
