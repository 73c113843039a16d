"""[7.8], [7.9]: papers."""

import random
import unittest

from asking import answer, free_names, kind, parts, random_question, walked
from halls import CLASHES, COUPLES, FOUR, FREE, WIDE, joined_books, lawful_over, random_company, rows_among
from joinedguests.answers import answer_of
from joinedguests.book import Book
from joinedguests.clashjudge import clash_fault
from joinedguests.company import Company
from joinedguests.errors import BadNaming, NoGuest, NoHall, NoPaper, NotLet, OtherTie, OtherTies, Unnamed
from joinedguests.papers import paper_fault, paper_of
from joinedguests.questions import And, AtLeast, Everybody, Not, Or, Same, Somebody, TieIs
from joinedguests.ties import Ties
from oracle import chain

Q = TieIs("a", 0, "b")
# Guests 3 and 5 are a couple, 8 has tie 1 to both.
TOLD = Company(Ties((0, 1)), (3, 5, 8), ((), (0,), (1, 1)))
NAMING = (("a", 3), ("b", 5), ("c", 8), ("d", 5))


def named(question, seats):
    """The labels of the named guests, ascending."""
    return sorted({seats[name] for name in free_names(question)})


def plain_answer(book, question, told, seats):
    labels = named(question, seats)
    places = {name: labels.index(seats[name]) for name in free_names(question)}
    return answer(question, book.ties.backs, set(book.barred), rows_among(told, labels), places)


def wider(told, labels, row):
    """The company of these guests and a newcomer with this row, and the newcomer's label."""
    part = told.part_of(labels)
    label = next(number for number in range(99) if number not in labels)
    return part.with_row(label, row), label


def is_tuple(thing, *told):
    """Whether a thing is a tuple of these words, None standing for anything."""
    return type(thing) is tuple and len(thing) == len(told) and all(
        word is None or type(part) is str and part == word for word, part in zip(told, thing))


def plain_fault(book, question, told, seats, paper):
    """The first fault of a paper, as [7.9] tells it."""
    if not is_tuple(paper, "yes", None) and not is_tuple(paper, "no", None):
        return ("form", ())
    return part_fault(book, question, told, seats, paper[0], paper[1], ())


def part_fault(book, question, told, seats, word, part, path):
    other, name = {"yes": "no", "no": "yes"}[word], kind(question)
    held = []
    if name in ("TieIs", "Same"):
        if not is_tuple(part, "plain"):
            return ("form", path)
        return None if plain_answer(book, question, told, seats) == (word == "yes") else ("plain", path)
    if name == "Not":
        if not is_tuple(part, "not", None):
            return ("form", path)
        return part_fault(book, question.body, told, seats, other, part[1], path + (0,))
    if (name, word) in (("And", "yes"), ("Or", "no")):
        if not is_tuple(part, "both", None, None):
            return ("form", path)
        held = [(body, told, seats, inner) for body, inner in zip(parts(question), part[1:])]
    elif name in ("And", "Or"):
        for place, side in enumerate(("left", "right")):
            if is_tuple(part, side, None):
                return part_fault(book, parts(question)[place], told, seats, word, part[1], path + (place,))
        return ("form", path)
    else:
        labels = named(question, seats)
        rows = lawful_over(book, told, labels)
        known = [(told.part_of(labels), label) for label in labels]
        new = [wider(told, labels, row) for row in rows]
        if (name, word) in (("Somebody", "yes"), ("Everybody", "no")):
            if is_tuple(part, "one", None, None):
                if type(part[1]) is not int or part[1] not in labels:
                    return ("guest", path)
                company, label = known[labels.index(part[1])]
            elif is_tuple(part, "row", None, None):
                if type(part[1]) is not tuple or not all(type(tie) is int for tie in part[1]) or part[1] not in rows:
                    return ("row", path)
                company, label = new[rows.index(part[1])]
            else:
                return ("form", path)
            return part_fault(
                book, question.body, company, {**seats, question.name: label}, word, part[2], path + (0,))
        if not is_tuple(part, "all", None, None) or type(part[1]) is not tuple or type(part[2]) is not tuple:
            return ("form", path)
        if len(part[1]) != len(known) or len(part[2]) != len(new):
            return ("missing", path)
        held = [
            (question.body, company, {**seats, question.name: label}, inner)
            for (company, label), inner in zip(known + new, part[1] + part[2])]
    for place, (body, company, inner_seats, inner) in enumerate(held):
        fault = part_fault(book, body, company, inner_seats, word, inner, path + (place,))
        if fault is not None:
            return fault
    return None


def spoilt(chance, thing):
    """All papers that have one place of this one spoilt."""
    yield chance.choice((
        None, True, 0, 1, 3, "yes", "plain", (), [], {}, ("plain",), ("not", ("plain",)), ("both", ("plain",), ("plain",)),
        ("left", ("plain",)), ("right", ("plain",)), ("one", 3, ("plain",)), ("one", True, ("plain",)),
        ("row", (), ("plain",)), ("row", (0,), ("plain",)), ("row", (True,), ("plain",)), ("row", [0], ("plain",)),
        ("all", (), ()), ("all", [], ()), ("all", (("plain",),), (("plain",),)), ("all",), (b"yes", 1)))
    if isinstance(thing, tuple):
        yield list(thing)
        yield thing + (None,)
        if thing:
            yield thing[:-1]
        for place, part in enumerate(thing):
            for other in spoilt(chance, part):
                yield thing[:place] + (other,) + thing[place + 1:]
    if isinstance(thing, str):
        for word in ("yes", "no", "left", "right", "one", "row", "both", "all", "not"):
            if word != thing:
                yield word
    if type(thing) is int:
        yield from (thing + 1, thing - 1, bool(thing), float(thing))


class PaperCase(unittest.TestCase):
    def random_case(self, chance, books, size):
        book = chance.choice(books)
        many = book.ties.many
        told = random_company(chance, book, chance.randint(1, 4))
        names = "abcd"[:chance.randint(1, 3 if many == 2 else 2)]
        while True:
            question = random_question(chance, names, many, chance.randint(1, size), width=4 if many == 2 else 3)
            if not any(kind(part) == "AtLeast" for part in walked(question)):
                break
        return book, told, question, {name: chance.choice(told.guests) for name in names}


class TestPaperOf(PaperCase):
    def test_random_questions(self):
        chance = random.Random(1)
        books = joined_books()
        counts = {}
        for _ in range(1200):
            book, told, question, seats = self.random_case(chance, books, 12)
            naming = list(seats.items())
            paper = paper_of(book, question, told, naming)
            yes = answer_of(book, question, told, naming)
            self.assertEqual(paper[0], "yes" if yes else "no")
            self.assertIsNone(plain_fault(book, question, told, seats, paper), (str(question), paper))
            self.assertIsNone(paper_fault(book, question, told, naming, paper))
            key = kind(question), paper[0]
            counts[key] = counts.get(key, 0) + 1
        words = {(name, word) for name in ("TieIs", "Not", "And", "Or", "Somebody", "Everybody") for word in ("yes", "no")}
        self.assertTrue(words <= set(counts), counts)
        self.assertTrue(min(counts[key] for key in words) > 5, counts)

    def test_each_class_and_word(self):
        plain = ("plain",)
        for question, papers in [
            (Q, [("yes", plain)]), (TieIs("a", 1, "b"), [("no", plain)]), (TieIs("b", 0, "d"), [("no", plain)]),
            (Same("b", "d"), [("yes", plain)]), (Same("a", "b"), [("no", plain)]),
            (Not(Q), [("no", ("not", plain))]), (Not(Same("a", "b")), [("yes", ("not", plain))]),
            (And(Q, Not(Same("a", "d"))), [("yes", ("both", plain, ("not", plain)))]),
            (And(Q, Same("a", "d")), [("no", ("right", plain))]), (And(Same("a", "d"), Q), [("no", ("left", plain))]),
            (Or(Q, Same("a", "d")), [("yes", ("left", plain))]), (Or(Same("a", "d"), Q), [("yes", ("right", plain))]),
            (Or(Q, Same("b", "d")), [("yes", ("left", plain)), ("yes", ("right", plain))]),
            (Or(Same("a", "d"), Same("a", "b")), [("no", ("both", plain, plain))]),
            # Over a the partner is a newcomer; over a and b it is b, and nobody else.
            (Somebody("b", Q), [("yes", ("row", (0,), plain))]),
            (Somebody("p", And(TieIs("a", 0, "p"), Same("b", "p"))), [("yes", ("one", 5, ("both", plain, plain)))]),
            (Somebody("p", And(TieIs("a", 0, "p"), TieIs("b", 0, "p"))), [
                ("no", ("all", (("left", plain), ("right", plain)), (("left", plain),))),
            ]),
            (Everybody("p", Or(Same("a", "p"), Not(TieIs("a", 0, "p")))), [("no", ("row", (0,), ("both", plain, ("not", plain))))]),
            (Everybody("p", Not(Same("a", "p"))), [("no", ("one", 3, ("not", plain)))]),
            (Everybody("p", TieIs("a", 1, "p")), [("no", ("one", 3, plain)), ("no", ("row", (0,), plain))]),
            (Everybody("p", Same("p", "p")), [("yes", ("all", (), (plain,)))]),
            (Everybody("p", Somebody("q", TieIs("p", 0, "q"))), [("yes", ("all", (), (("row", (0,), plain),)))]),
        ]:
            self.assertIn(paper_of(COUPLES, question, TOLD, NAMING), papers, str(question))
            for paper in papers:
                self.assertIsNone(paper_fault(COUPLES, question, TOLD, NAMING, paper), (str(question), paper))
                self.assertEqual(paper_fault(COUPLES, question, TOLD, NAMING, ({"yes": "no", "no": "yes"}[paper[0]], paper[1])),
                                 plain_fault(COUPLES, question, TOLD, dict(NAMING), (
                                     {"yes": "no", "no": "yes"}[paper[0]], paper[1])))

    def test_one_guest_of_several_names(self):
        # b and d are one guest: there is one entry for it.
        question = Everybody("p", Or(Same("p", "b"), Not(Same("p", "d"))))
        self.assertEqual(paper_of(FREE, question, TOLD, NAMING), (
            "yes", ("all", (("left", ("plain",)),), (("right", ("not", ("plain",))),) * 2)))

    def test_a_row_that_nobody_can_have(self):
        """Over a whole hall there is no newcomer, over its parts there are some."""
        told = Company(Ties((0, 1)), (2, 4, 6, 8), ((), (0,), (1, 1), (1, 1, 0)))
        naming = [(name, label) for name, label in zip("abcd", told.guests)]
        body = Or(Or(Same("p", "a"), Same("p", "b")), Or(Same("p", "c"), TieIs("p", 0, "c")))
        paper = paper_of(FOUR, Everybody("p", body), told, naming[:3])
        self.assertEqual(paper[0], "yes")
        self.assertEqual((len(paper[1][1]), len(paper[1][2])), (3, 1))

    def test_labels_of_newcomers(self):
        """The newcomer has the least free label, also that of a guest who is forgotten."""
        # 0 is forgotten by the outer question, so the newcomer is 0; over 0 and 1 the next one is 2.
        told = chain((0, 1), 1, [0, 1])
        question = Somebody("p", And(TieIs("p", 0, "a"), Somebody("q", And(Same("p", "q"), TieIs("q", 0, "a")))))
        naming = (("a", 1), ("z", 0))
        inner = ("both", ("plain",), ("one", 0, ("both", ("plain",), ("plain",))))
        paper = ("yes", ("row", (0,), inner))
        self.assertIsNone(paper_fault(COUPLES, question, told, naming, paper))
        self.assertEqual(paper_of(COUPLES, question, told, naming), paper)
        spoilt_paper = ("yes", ("row", (0,), ("both", ("plain",), ("one", 2, ("both", ("plain",), ("plain",))))))
        self.assertEqual(paper_fault(COUPLES, question, told, naming, spoilt_paper), ("guest", (0, 1)))

    def test_a_name_that_is_not_free_in_the_body(self):
        for cls in (Somebody, Everybody):
            for question, word in [(cls("p", Q), "yes"), (cls("p", Not(Q)), "no")]:
                paper = paper_of(COUPLES, question, TOLD, NAMING)
                self.assertEqual(paper[0], word)
                self.assertIsNone(plain_fault(COUPLES, question, TOLD, dict(NAMING), paper))

    def test_deep_and_wide(self):
        body = Or(Or(TieIs("p", 0, "q"), TieIs("q", 1, "r")), Or(TieIs("p", 0, "r"), TieIs("r", 1, "a")))
        for book in (FREE, COUPLES, WIDE, Book(Ties((0, 1, 3, 2)))):
            if book.ties.many > 2:
                body = Or(Or(TieIs("p", 0, "q"), TieIs("q", 1, "r")), TieIs("p", 0, "r"))
            for binders in ((Everybody, Somebody, Everybody), (Somebody, Everybody, Somebody), (Everybody,) * 3):
                question = binders[0]("p", binders[1]("q", binders[2]("r", body)))
                told = Company(book.ties, (4,), ((),))
                naming = [("a", 4)]
                paper = paper_of(book, question, told, naming)
                self.assertIsNone(paper_fault(book, question, told, naming, paper))
                self.assertEqual(paper[0], "yes" if answer_of(book, question, told, naming) else "no")

    def test_long_questions(self):
        question, other = Q, Same("a", "b")
        for _ in range(99):
            question, other = Not(Not(question)), Or(other, Same("a", "b"))
        for told in (question, other, Not(other)):
            paper = paper_of(COUPLES, told, TOLD, NAMING)
            self.assertIsNone(plain_fault(COUPLES, told, TOLD, dict(NAMING), paper))
            self.assertIsNone(paper_fault(COUPLES, told, TOLD, NAMING, paper))


class TestPaperFault(PaperCase):
    def test_spoilt_at_each_place(self):
        chance = random.Random(2)
        books = joined_books()
        counts = {}
        for _ in range(200):
            book, told, question, seats = self.random_case(chance, books, 8)
            naming = list(seats.items())
            paper = paper_of(book, question, told, naming)
            others = list(spoilt(chance, paper))
            for other in others if len(others) < 120 else chance.sample(others, 120):
                expected = plain_fault(book, question, told, seats, other)
                found = paper_fault(book, question, told, naming, other)
                self.assertEqual(found, expected, (str(question), paper, other))
                if found is None:
                    # A right paper has the right word.
                    self.assertEqual(other[0], paper[0])
                else:
                    self.assertEqual((type(found), type(found[1])), (tuple, tuple))
                what = None if found is None else found[0]
                counts[what] = counts.get(what, 0) + 1
        self.assertEqual(set(counts), {None, "form", "guest", "row", "missing", "plain"})
        self.assertTrue(min(counts.values()) > 30, counts)

    def test_any_other_thing(self):
        for paper in (
            None, True, 0, "yes", "", b"yes", [], ["yes", ("plain",)], (), ("yes",), ("yes", ("plain",), 1), (True, ("plain",)),
            ("YES", ("plain",)), (("yes",), ("plain",)), {"yes": 1}, Q, COUPLES, object(), (None, None), ([], []), (1.0, {}),
        ):
            self.assertEqual(paper_fault(COUPLES, Q, TOLD, NAMING, paper), ("form", ()))
        for part in (None, True, "plain", ["plain"], (), ("plain", 1), ("not", ("plain",)), (["plain"],), object(), {}, ((),)):
            self.assertEqual(paper_fault(COUPLES, Q, TOLD, NAMING, ("yes", part)), ("form", ()))

    def test_a_thing_that_is_equal_to_all(self):
        class Alike:
            def __eq__(self, other):
                return True

            __hash__ = None

        told = Alike()
        some = Somebody("p", Same("p", "a"))
        for question, paper, fault in [
            (Q, told, ("form", ())), (Q, (told, ("plain",)), ("form", ())), (Q, ("yes", (told,)), ("form", ())),
            (some, ("yes", (told, 3, ("plain",))), ("form", ())), (some, ("yes", ("one", told, ("plain",))), ("guest", ())),
            (some, ("yes", ("row", told, ("plain",))), ("row", ())), (some, ("yes", ("row", (told,), ("plain",))), ("row", ())),
        ]:
            self.assertEqual(paper_fault(COUPLES, question, TOLD, NAMING, paper), fault)

    def test_each_fault_and_its_path(self):
        plain = ("plain",)
        both = And(Q, Not(Same("a", "b")))
        some = Somebody("p", And(TieIs("a", 0, "p"), Same("b", "p")))
        every = Everybody("p", Or(Same("a", "p"), Or(TieIs("a", 0, "p"), TieIs("a", 1, "p"))))
        right = ("all", (("left", plain),), (("right", ("left", plain)), ("right", ("right", plain))))
        self.assertIsNone(paper_fault(COUPLES, every, TOLD, NAMING, ("yes", right)))
        for question, paper, fault in [
            (Q, ("no", plain), ("plain", ())),
            (both, ("yes", ("both", plain, plain)), ("form", (1,))),
            (both, ("yes", ("both", None, None)), ("form", (0,))),
            (both, ("yes", ("left", plain)), ("form", ())),
            (both, ("no", ("both", plain, ("not", plain))), ("form", ())),
            (both, ("no", ("left", plain)), ("plain", (0,))),
            (both, ("no", ("right", ("not", plain))), ("plain", (1, 0))),
            (both, ("yes", ("both", plain, ("not", ("not", plain)))), ("form", (1, 0))),
            (some, ("yes", ("one", 3, ("both", plain, plain))), ("plain", (0, 0))),
            (some, ("yes", ("one", 8, ("both", plain, plain))), ("guest", ())),
            (some, ("yes", ("one", 0, None)), ("guest", ())),
            (some, ("yes", ("one", None, None)), ("guest", ())),
            (some, ("yes", ("one", 5.0, ("both", plain, plain))), ("guest", ())),
            (some, ("yes", ("one", 5, ("both", plain))), ("form", (0,))),
            (some, ("yes", ("row", [1, 1], None)), ("row", ())),
            (some, ("yes", ("row", (0, 0), None)), ("row", ())),
            (some, ("yes", ("row", (1,), None)), ("row", ())),
            (some, ("yes", ("row", (True, 1), None)), ("row", ())),
            (some, ("yes", ("row", (1.0, 1), None)), ("row", ())),
            (some, ("yes", ("row", (1, 1), ("both", plain, plain))), ("plain", (0, 0))),
            (some, ("yes", ("all", (), ())), ("form", ())),
            (every, ("yes", ("all", [], ())), ("form", ())),
            (every, ("yes", ("all", right[1], list(right[2]))), ("form", ())),
            (every, ("yes", ("all", (), right[2])), ("missing", ())),
            (every, ("yes", ("all", right[1], right[2][:1])), ("missing", ())),
            (every, ("yes", ("all", right[1] * 2, right[2][:1])), ("missing", ())),
            (every, ("yes", ("all", (None,), (None, None))), ("form", (0,))),
            (every, ("yes", ("all", right[1], (None, None))), ("form", (1,))),
            (every, ("yes", ("all", right[1], right[2][::-1])), ("plain", (1, 1, 1))),
            (every, ("yes", ("all", right[1], (right[2][0], ("right", ("left", plain))))), ("plain", (2, 1, 0))),
            (every, ("no", ("one", 3, ("both", plain, ("both", plain, plain)))), ("plain", (0, 0))),
        ]:
            self.assertEqual(paper_fault(COUPLES, question, TOLD, NAMING, paper), fault, (str(question), paper))

    def test_true_is_no_label(self):
        told = chain((0, 1), 0, [0, 1])
        some = Somebody("p", Same("p", "a"))
        self.assertIsNone(paper_fault(FREE, some, told, (("a", 1),), ("yes", ("one", 1, ("plain",)))))
        self.assertEqual(paper_fault(FREE, some, told, (("a", 1),), ("yes", ("one", True, ("plain",)))), ("guest", ()))


class TestRefused(PaperCase):
    def calls(self):
        return (paper_of, lambda *things: paper_fault(*things, None))

    def test_errors_in_their_order(self):
        """Each call has all faults that come later, too."""
        bad, least = [("a", 3), None], AtLeast(1, "p", TieIs("p", 3, "a"))
        for call in self.calls():
            with self.assertRaises(OtherTies):
                call(CLASHES, least, chain((1, 0), 0, [1, 2, 3]), bad)
            with self.assertRaises(NoHall) as caught:
                call(CLASHES, least, chain((0, 1), 0, [1, 2, 3]), bad)
            self.assertIsNone(clash_fault(CLASHES, caught.exception.clash))
            with self.assertRaises(NotLet) as caught:
                call(COUPLES, least, chain((0, 1), 0, [1, 2, 3]), bad)
            self.assertEqual(caught.exception.what, "company")
            with self.assertRaises(NoPaper):
                call(COUPLES, least, TOLD, bad)
            question = And(TieIs("a", 3, "b"), Same("y", "z"))
            with self.assertRaises(BadNaming) as caught:
                call(COUPLES, question, TOLD, bad)
            self.assertEqual((caught.exception.index, caught.exception.what), (1, "pair"))
            with self.assertRaises(Unnamed) as caught:
                call(COUPLES, question, TOLD, [("a", 99), ("b", 5), ("z", 99)])
            self.assertEqual(caught.exception.name, "y")
            with self.assertRaises(NoGuest) as caught:
                call(COUPLES, question, TOLD, [("a", 99), ("b", 5), ("y", 98), ("z", 98)])
            self.assertEqual(caught.exception.label, 99)
            with self.assertRaises(OtherTie) as caught:
                call(COUPLES, question, TOLD, [("a", 3), ("b", 5), ("y", 3), ("z", 3)])
            self.assertEqual(caught.exception.tie, 3)

    def test_at_least_anywhere(self):
        least = AtLeast(2, "p", TieIs("p", 0, "a"))
        for question in (least, Not(least), And(Q, least), Or(Q, Not(least)), Somebody("q", And(Same("q", "a"), least))):
            for call in self.calls():
                with self.assertRaises(NoPaper):
                    call(COUPLES, question, TOLD, NAMING)


if __name__ == "__main__":
    unittest.main()
