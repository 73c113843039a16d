"""[4.1] to [4.9], [4.13]: two companies put into one."""

import random
import unittest
from itertools import combinations, product

from joinedguests.book import Book
from joinedguests.clashjudge import clash_fault
from joinedguests.company import Company
from joinedguests.errors import BadCrossing, CannotMerge, NoGuest, NotLet, OtherTies
from joinedguests.merging import (
    Merged, Stuck, common_guests, crossing_of, first_difference, merge, merge_fault, outsiders_of, with_crossing,
)
from joinedguests.ties import Ties
from joinedguests.verdict import Clash, verdict_of
from oracle import all_books, chain, classes, company, let_rows

# The labels of the guests of two companies.
LOTS = (
    ((1, 2), (1, 3)), ((1, 3), (1, 2)), ((1, 4), (2, 3)), ((1, 2, 5), (1, 3, 4)), ((2, 4, 6), (1, 3, 6)),
    ((1, 2, 3), (2,)), ((2,), (1, 2, 3)), ((1, 2, 3), (1, 2, 3)), ((), (4, 5)), ((4, 5), ()),
    ((1, 2, 4), (1, 2, 3)), ((1, 2, 3), (1, 2, 4)),
)


def clumps():
    """The book of [4.13]: barred all threes with exactly one 1."""
    return Book(Ties((0, 1)), [(0, 0, 1)])


def pairs_of(book, labels, other_labels, step=1):
    """Let companies with these labels that agree, some of them if step is above 1."""
    backs = book.ties.backs
    ones = [company(backs, rows, labels) for rows in let_rows(backs, book.barred, len(labels))]
    others = [company(backs, rows, other_labels) for rows in let_rows(backs, book.barred, len(other_labels))]
    for one, other in list(product(ones, others))[::step]:
        common = [label for label in labels if label in other_labels]
        if all(one.tie_of(x, y) == other.tie_of(x, y) for x, y in combinations(common, 2)):
            yield one, other


def plain_merge(book, one, other):
    """[4.4] to [4.6] over a dict of ties: what a Merged or a Stuck should hold, as a tuple."""
    many, backs, barred = book.ties.many, book.ties.backs, set(book.barred)
    known = {(a, b): one.tie_of(a, b) for a in one for b in one if a != b}
    stands_for = {label: label for label in one if label in other}
    made_one = []
    for y in [label for label in other if label not in one]:
        to = {stands_for[z]: other.tie_of(y, z) for z in other if z in stands_for}
        host = y
        for x in [label for label in one if label not in other]:
            if x in [kept for _, kept in made_one]:
                continue
            fine = [t for t in range(many) if all((known[x, a], backs[to[a]], t) not in barred for a in to)]
            if fine:
                to[x] = backs[fine[0]]
            elif all(known[x, a] == to[a] for a in to):
                host = x
                made_one.append((y, x))
                break
            else:
                return stuck_parts(book, known, x, y, to)
        stands_for[y] = host
        if host == y:
            for a, tie in to.items():
                known[y, a], known[a, y] = tie, backs[tie]
    return "merged", known, tuple(made_one)


def stuck_parts(book, known, x, y, to):
    backs, barred = book.ties.backs, set(book.barred)
    witnesses = [
        min(a for a in to if (known[x, a], backs[to[a]], t) in barred) for t in range(book.ties.many)
    ]
    seated = set(witnesses)
    if all(known[x, a] == to[a] for a in seated):
        seated.add(min(a for a in to if known[x, a] != to[a]))
    seated = sorted(seated)
    rows = [[known[a, b] for b in seated if b < a] for a in seated]
    clash = Clash(
        Company(book.ties, seated, rows), tuple(known[x, a] for a in seated), tuple(to[a] for a in seated),
        tuple(witnesses))
    return "stuck", x, y, clash


class TestAgreeing(unittest.TestCase):
    def test_common_guests_and_outsiders(self):
        for labels, other_labels in LOTS:
            one, other = chain((0, 1), 0, labels), chain((0, 1), 0, other_labels)
            self.assertEqual(common_guests(one, other), tuple(sorted(set(labels) & set(other_labels))))
            self.assertEqual(outsiders_of(one, other), tuple(sorted(set(labels) - set(other_labels))))
            self.assertEqual(outsiders_of(other, one), tuple(sorted(set(other_labels) - set(labels))))

    def test_first_difference(self):
        for backs, rows, other_rows, expected in [
            ((0, 1), ((), (0,), (0, 1)), ((), (0,), (0, 1)), None),
            ((0, 1), ((), (0,), (0, 1)), ((), (0,), (1, 1)), (3, 8)),
            ((0, 1), ((), (0,), (0, 1)), ((), (0,), (0, 0)), (5, 8)),
            ((0, 1), ((), (0,), (0, 1)), ((), (1,), (1, 0)), (3, 5)),
            ((1, 0), ((), (0,), (0, 1)), ((), (0,), (1, 0)), (3, 8)),
        ]:
            one, other = company(backs, rows, (3, 5, 8)), company(backs, other_rows, (3, 5, 8))
            self.assertEqual(first_difference(one, other), expected)
            self.assertEqual(first_difference(other, one), expected)

    def test_outsiders_do_not_differ(self):
        one = Company(Ties((0, 1)), (1, 2, 4, 7), ((), (1,), (0, 1), (1, 1, 1)))
        other = Company(Ties((0, 1)), (1, 3, 4, 7), ((), (0,), (0, 0), (1, 1, 0)))
        self.assertEqual(first_difference(one, other), (4, 7))
        self.assertIsNone(first_difference(one.without(7), other))
        self.assertIsNone(first_difference(Company(one.ties), other))

    def test_other_ties(self):
        for backs in ((1, 0), (0, 1, 2)):
            for call in (common_guests, outsiders_of, first_difference):
                with self.assertRaises(OtherTies):
                    call(Company(Ties((0, 1))), Company(Ties(backs)))


class TestCrossings(unittest.TestCase):
    def setUp(self):
        self.ties = Ties((0, 2, 1))
        self.one = Company(self.ties, (2, 4, 6), ((), (1,), (0, 2)))
        self.other = Company(self.ties, (1, 4, 5), ((), (2,), (0, 1)))

    def test_there_and_back(self):
        for crossing in product(range(3), repeat=4):
            whole = with_crossing(self.one, self.other, list(crossing))
            self.assertEqual(whole.guests, (1, 2, 4, 5, 6))
            self.assertEqual(whole.part_of((2, 4, 6)), self.one)
            self.assertEqual(whole.part_of((1, 4, 5)), self.other)
            # y in ascending order, for each y the x in ascending order, the tie from x to y.
            self.assertEqual(
                (whole.tie_of(2, 1), whole.tie_of(6, 1), whole.tie_of(2, 5), whole.tie_of(6, 5)), crossing)
            self.assertEqual(crossing_of(self.one, self.other, whole), crossing)

    def test_the_other_way_round(self):
        # The ties from 2 and 6 to 1, then to 5; told back: those from 1 and 5 to 2, then to 6.
        whole = with_crossing(self.one, self.other, (0, 1, 1, 2))
        self.assertEqual(crossing_of(self.other, self.one, whole), (0, 2, 2, 1))

    def test_unlike_numbers_of_outsiders(self):
        # By hand: y = 1 has the entries of x = 2, 6, 8; then y = 5.
        one = self.one.with_row(8, (0, 1, 2))
        whole = with_crossing(one, self.other, (0, 1, 2, 2, 1, 1))
        self.assertEqual([whole.tie_of(x, 1) for x in (2, 6, 8)], [0, 1, 2])
        self.assertEqual([whole.tie_of(x, 5) for x in (2, 6, 8)], [2, 1, 1])
        self.assertEqual(crossing_of(one, self.other, whole), (0, 1, 2, 2, 1, 1))
        self.assertEqual(crossing_of(self.other, one, whole), (0, 1, 2, 2, 1, 2))

    def test_no_outsiders(self):
        self.assertEqual(with_crossing(self.one, self.one.without(4), ()), self.one)
        self.assertEqual(with_crossing(Company(self.ties), self.one, []), self.one)
        self.assertEqual(crossing_of(self.one, self.one.without(4), self.one), ())

    def test_a_larger_company(self):
        whole = with_crossing(self.one, self.other, (0, 1, 2, 1)).with_row(9, (0, 0, 0, 0, 0))
        self.assertEqual(crossing_of(self.one, self.other, whole), (0, 1, 2, 1))

    def test_crossing_of_refused(self):
        nobody = Company(self.ties)
        for backs in ((0, 1), (0, 1, 2)):
            stranger = Company(Ties(backs))
            for told in ((stranger, self.other, nobody), (self.one, stranger, nobody), (self.one, self.other, stranger)):
                with self.assertRaises(OtherTies):
                    crossing_of(*told)
        whole = with_crossing(self.one, self.other, (0, 0, 0, 0))
        for labels, label in [((1, 4, 5), 2), ((1, 2, 5), 6), ((2, 6), 1), ((1, 2, 6), 5), ((), 2)]:
            with self.assertRaises(NoGuest) as caught:
                crossing_of(self.one, self.other, whole.part_of(labels))
            self.assertEqual(caught.exception.label, label)

    def test_no_guest_where_one_alone_has_outsiders(self):
        for one, other in ((self.one, nobody_of(self.ties)), (nobody_of(self.ties), self.one)):
            with self.assertRaises(NoGuest) as caught:
                crossing_of(one, other, self.one.without(4))
            self.assertEqual(caught.exception.label, 4)
            self.assertEqual(crossing_of(one, other, self.one), ())

    def test_with_crossing_refused(self):
        with self.assertRaises(OtherTies):
            with_crossing(self.one, Company(Ties((0, 1, 2))), None)
        differing = Company(self.ties, (2, 4), ((), (2,)))
        with self.assertRaises(CannotMerge) as caught:
            with_crossing(self.one, differing, None)
        self.assertEqual((caught.exception.what, caught.exception.labels), ("differ", (2, 4)))
        with self.assertRaises(CannotMerge) as caught:
            with_crossing(chain((0, 2, 1), 0, list(range(60))), chain((0, 2, 1), 0, [59, 60]), None)
        self.assertEqual((caught.exception.what, caught.exception.labels), ("many", ()))

    def test_bad_crossing(self):
        for crossing in (None, 0, "0000", {}, (), (0, 0, 0), [0] * 5):
            self.refused(0, "length", crossing)
        for tie in (True, False, None, "0", 3, -1):
            self.refused(1, "tie", (0, tie, 0, None))
            self.refused(3, "tie", [0, 0, 0, tie])

    def refused(self, index, what, crossing):
        with self.assertRaises(BadCrossing) as caught:
            with_crossing(self.one, self.other, crossing)
        self.assertEqual((caught.exception.index, caught.exception.what), (index, what))

    def test_sixty_together(self):
        one, other = chain((1, 0), 0, list(range(30))), chain((1, 0), 0, list(range(30, 60)))
        self.assertEqual(with_crossing(one, other, (0,) * 900), chain((1, 0), 0, list(range(60))))


def nobody_of(ties):
    return Company(ties)


class TestRefusals(unittest.TestCase):
    def calls(self, book, one, other):
        return (lambda: merge(book, one, other), lambda: merge_fault(book, one, other, None, None))

    def refused(self, error, book, one, other, **fields):
        for call in self.calls(book, one, other):
            with self.assertRaises(error) as caught:
                call()
            self.assertEqual(vars(caught.exception), fields)

    def test_in_order(self):
        book = Book(Ties((0, 1)), [(0, 0, 0)])
        barred, stranger = chain((0, 1), 0, [1, 2, 3]), chain((1, 0), 0, [1, 2, 3])
        let, differing = chain((0, 1), 1, [1, 2]), chain((0, 1), 0, [1, 2])
        self.refused(OtherTies, book, stranger, barred)
        self.refused(OtherTies, book, barred, stranger)
        self.refused(OtherTies, book, stranger, stranger)
        self.refused(NotLet, book, barred, barred, what="one")
        self.refused(NotLet, book, barred, differing, what="one")
        self.refused(NotLet, book, let, barred, what="other")
        self.refused(CannotMerge, book, let, differing, what="differ", labels=(1, 2))

    def test_differ_ahead_of_many(self):
        book = Book(Ties((0, 1)))
        many, other = chain((0, 1), 0, list(range(60))), chain((0, 1), 1, [3, 7, 60])
        self.refused(CannotMerge, book, many, other, what="differ", labels=(3, 7))
        self.refused(CannotMerge, book, many, other.without(3), what="many", labels=())

    def test_sixty_and_sixty_one_together(self):
        book = Book(Ties((0, 1)))
        one = chain((0, 1), 0, list(range(0, 70, 2)))
        self.assertEqual(len(one), 35)
        self.refused(CannotMerge, book, one, chain((0, 1), 0, list(range(1, 53, 2))), what="many", labels=())
        told = merge(book, one, chain((0, 1), 0, list(range(1, 51, 2))))
        self.assertEqual(len(told.company), 60)
        self.refused(CannotMerge, book, one, chain((0, 1), 0, [2, 4] + list(range(100, 126))), what="many", labels=())
        told = merge(book, one, chain((0, 1), 0, [2, 4] + list(range(100, 125))))
        self.assertEqual(told, Merged(chain((0, 1), 0, list(one) + list(range(100, 125))), ()))

    def test_sixty_ahead_of_those_made_one(self):
        # All outsiders would be made one, but the guests are counted before.
        book = Book(Ties((0, 1)), [(0, 0, 0), (0, 0, 1)])
        one, other = chain((0, 1), 1, list(range(60))), Company(Ties((0, 1)), (60,), ((),))
        self.refused(CannotMerge, book, one, other, what="many", labels=())


class TestMerge(unittest.TestCase):
    def check(self, book, one, other, kind):
        found = merge(book, one, other)
        expected = plain_merge(book, one, other)
        if expected[0] == "stuck":
            self.assertEqual(kind, "clash")
            self.assertIs(type(found), Stuck)
            self.assertEqual((found.x, found.y, found.clash), expected[1:])
            self.assertIsNone(clash_fault(book, found.clash))
            return "stuck"
        self.assertIs(type(found), Merged)
        self.assertEqual(found.made_one, expected[2])
        self.assertTrue(book.lets(found.company))
        for (a, b), tie in expected[1].items():
            self.assertEqual(found.company.tie_of(a, b), tie)
        self.assertEqual(set(found.company), (set(one) | set(other)) - set(found.dropped))
        for part in (one, other):
            for a, b in combinations(part, 2):
                self.assertEqual(found.company.tie_of(found.host_of(a), found.host_of(b)), part.tie_of(a, b))
        self.assertIsNone(merge_fault(book, one, other, found.company, found.made_one))
        if found.made_one:
            self.assertNotEqual(kind, "strict")
            return "made one"
        return "merged"

    def check_all(self, books, step):
        seen = []
        for book in books:
            kind = verdict_of(book).KIND
            for labels, other_labels in LOTS:
                for one, other in pairs_of(book, labels, other_labels, step):
                    seen.append(self.check(book, one, other, kind))
        return {word: seen.count(word) for word in ("merged", "made one", "stuck")}

    def test_all_books_of_two_ties(self):
        for backs in ((0, 1), (1, 0)):
            counts = self.check_all(all_books(backs), 1)
            self.assertGreater(min(counts.values()), 5, counts)

    def test_books_of_three_ties(self):
        counts = self.check_all(all_books((0, 2, 1))[3::17], 37)
        self.assertGreater(min(counts.values()), 2, counts)
        counts = self.check_all(all_books((0, 1, 2))[1::150], 37)
        self.assertGreater(min(counts["merged"], counts["stuck"]), 2, counts)

    def test_larger_companies(self):
        chance = random.Random(11)
        seen = []
        books = all_books((0, 1)) + all_books((1, 0)) + all_books((0, 2, 1))[::9]
        for book in books:
            kind = verdict_of(book).KIND
            for _ in range(12):
                whole = grown(book, chance, 12)
                labels = list(whole)
                common = chance.sample(labels, min(3, len(labels)))
                one = whole.part_of(common + chance.sample(labels, len(labels) // 2))
                other = whole.part_of(common + chance.sample(labels, len(labels) // 2))
                moved = [(label, label if label in common else label + 1) for label in other]
                seen.append(self.check(book, one, other.renamed(moved), kind))
        self.assertEqual(set(seen), {"merged", "made one", "stuck"})

    def test_the_clash_of_a_book_is_stuck(self):
        for backs in ((0, 1), (1, 0), (0, 2, 1)):
            for book in all_books(backs):
                clash = verdict_of(book)
                if clash.KIND != "clash":
                    continue
                count = len(clash.company)
                one = clash.company.with_row(count + 1, clash.one)
                other = clash.company.with_row(count, clash.other)
                found = merge(book, one, other)
                self.assertIs(type(found), Stuck)
                self.assertEqual((found.x, found.y), (count + 1, count))
                self.assertIsNone(clash_fault(book, found.clash))

    def test_arguments_stay(self):
        one, other = chain((0, 1), 0, [1, 2]), chain((0, 1), 0, [1, 3])
        merge(clumps(), one, other)
        self.assertEqual((one, other), (chain((0, 1), 0, [1, 2]), chain((0, 1), 0, [1, 3])))

    def test_nobody(self):
        nobody, two = Company(Ties((0, 1))), chain((0, 1), 1, [4, 5])
        for one, other, whole in [(nobody, nobody, nobody), (nobody, two, two), (two, nobody, two), (two, two, two)]:
            self.assertEqual(merge(clumps(), one, other), Merged(whole, ()))


def grown(book, chance, most):
    """A let company of at most so many guests with the labels 10, 20, .., by chance."""
    told = Company(book.ties)
    while len(told) < most:
        rows = [()]
        for place, _ in enumerate(told):
            rows = [
                row + (tie,) for row in rows for tie in range(book.ties.many)
                if book.row_fault(told.part_of(told.guests[:place + 1]), row + (tie,)) is None]
            rows = chance.sample(rows, min(5, len(rows)))
        if not rows:
            return told
        told = told.with_row(10 * len(told) + 10, chance.choice(rows))
    return told


class TestExamples(unittest.TestCase):
    def test_nobody_made_one(self):
        ties = Ties((0, 1))
        one, other = chain((0, 1), 0, [1, 2]), chain((0, 1), 1, [1, 3])
        self.assertEqual(merge(clumps(), one, other), Merged(Company(ties, (1, 2, 3), ((), (0,), (1, 1))), ()))

    def test_made_one(self):
        book = Book(Ties((0, 1)), [(0, 0, 0), (0, 0, 1)])
        one, other = chain((0, 1), 0, [1, 2]), chain((0, 1), 0, [1, 3])
        self.assertEqual(merge(book, one, other), Merged(one, ((3, 2),)))

    def test_a_guest_made_one_is_known_to_the_next(self):
        # 3 is made one with 2; its tie to 4 is then the tie from 2 to 4.
        book = Book(Ties((0, 1)), [(0, 0, 0), (0, 0, 1)])
        one = Company(Ties((0, 1)), (1, 2), ((), (0,)))
        other = Company(Ties((0, 1)), (1, 3, 4), ((), (0,), (1, 1)))
        found = merge(book, one, other)
        self.assertEqual(found, Merged(Company(one.ties, (1, 2, 4), ((), (0,), (1, 1))), ((3, 2),)))

    def test_stuck(self):
        # Guests with like ties to all stand in rows of one tie alone.
        book = Book(Ties((0, 1)), [(0, 0, 1), (0, 1, 1)])
        one, other = chain((0, 1), 0, [1, 2]), chain((0, 1), 1, [1, 3])
        seat = Company(Ties((0, 1)), (1,), ((),))
        self.assertEqual(merge(book, one, other), Stuck(2, 3, Clash(seat, (0,), (1,), (1, 1))))

    def test_stuck_with_a_guest_besides_the_witnesses(self):
        # Guests 5 and 7 bar both ties, but only at guest 9 the rows differ.
        book = Book(Ties((0, 1)), [(0, 0, 0), (1, 1, 1)])
        core = Company(Ties((0, 1)), (5, 7, 9), ((), (0,), (1, 0)))
        one, other = core.with_row(3, (0, 1, 0)), core.with_row(4, (0, 1, 1))
        self.assertEqual(merge(book, one, other), Stuck(3, 4, Clash(core, (0, 1, 0), (0, 1, 1), (5, 7))))

    def test_one_way_ties(self):
        # The ties from the guests of one to that of other are the least fine ones.
        book = Book(Ties((1, 0)), [(0, 0, 1)])
        one, other = chain((1, 0), 0, [1, 2]), chain((1, 0), 0, [1, 3])
        self.assertEqual(merge(book, one, other).company, chain((1, 0), 0, [1, 2, 3]))
        one, other = chain((1, 0), 1, [1, 2]), chain((1, 0), 0, [1, 3])
        self.assertEqual(merge(book, one, other).company, Company(Ties((1, 0)), (1, 2, 3), ((), (0,), (1, 1))))


class TestMergeFault(unittest.TestCase):
    def setUp(self):
        self.book = Book(Ties((0, 1)), [(0, 0, 0), (0, 0, 1)])
        self.one, self.other = chain((0, 1), 0, [1, 2]), chain((0, 1), 0, [1, 3])

    def fault(self, told, made_one, book=None, one=None, other=None):
        return merge_fault(book or self.book, one or self.one, other or self.other, told, made_one)

    def test_right(self):
        self.assertIsNone(self.fault(self.one, ((3, 2),)))
        self.assertIsNone(self.fault(self.one, [[3, 2]]))

    def test_any_way_is_right(self):
        # Nobody need be made one, and other ties than the least fine ones may be taken.
        book = Book(Ties((0, 1)))
        for tie in (0, 1):
            self.assertIsNone(self.fault(with_crossing(self.one, self.other, (tie,)), (), book))
        self.assertIsNone(self.fault(self.one, ((3, 2),), book))

    def test_made(self):
        for made_one in (
            None, 3, "ab", {3: 2}, ((3, 2), None), (3, 2), ("32",), ((3,),), ((3, 2, 1),), ((3, 2), (3, 2)),
            ((2, 3),), ((1, 2),), ((3, 1),), ((3, 3),), ((1, 1),), ((4, 2),), ((3, 4),), ((True, 2),), ((3, True),),
            ((None, 2),), ((3, "2"),), (([3], 2),), ((3, [2]),), ((3, {}),),
        ):
            self.assertEqual(self.fault(None, made_one), "made", made_one)

    def test_true_and_false_are_no_labels(self):
        one, other = chain((0, 1), 1, [1, 5]), chain((0, 1), 1, [0, 5])
        book = Book(Ties((0, 1)))
        self.assertIsNone(self.fault(one, ((0, 1),), book, one, other))
        for pair in ((False, 1), (0, True)):
            self.assertEqual(self.fault(one, (pair,), book, one, other), "made")

    def test_made_in_order_and_once(self):
        book = Book(Ties((0, 1)))
        one, other = chain((0, 1), 0, [1, 3, 5]), chain((0, 1), 0, [2, 4, 6])
        self.assertIsNone(self.fault(one, ((2, 1), (4, 3), (6, 5)), book, one, other))
        self.assertIsNone(self.fault(one, ((2, 5), (4, 1), (6, 3)), book, one, other))
        for made_one in (((4, 3), (2, 1), (6, 5)), ((2, 1), (4, 1), (6, 5)), ((2, 1), (2, 3), (6, 5))):
            self.assertEqual(self.fault(one, made_one, book, one, other), "made")

    def test_guests(self):
        self.assertEqual(self.fault(chain((1, 0), 0, [1, 2]), ((3, 2),)), "guests")
        self.assertEqual(self.fault(chain((0, 1, 2), 0, [1, 2]), ((3, 2),)), "guests")
        for labels in ([1], [1, 3], [1, 2, 3], [1, 2, 4], []):
            self.assertEqual(self.fault(chain((0, 1), 0, labels), ((3, 2),)), "guests")
        for labels in ([1, 2], [1, 3], [1, 2, 3, 4]):
            self.assertEqual(self.fault(chain((0, 1), 1, labels), ()), "guests")

    def test_one_other_barred(self):
        ties = Ties((0, 1))
        self.assertEqual(self.fault(chain((0, 1), 1, [1, 2]), ((3, 2),)), "one")
        self.assertEqual(self.fault(Company(ties, (1, 2, 3), ((), (1,), (1, 1))), ()), "one")
        self.assertEqual(self.fault(Company(ties, (1, 2, 3), ((), (0,), (1, 1))), ()), "other")
        self.assertEqual(self.fault(Company(ties, (1, 2, 3), ((), (0,), (0, 1))), ()), "barred")
        other = chain((0, 1), 1, [1, 3])
        self.assertEqual(self.fault(self.one, ((3, 2),), None, None, other), "other")

    def test_ties_of_one_way(self):
        book = Book(Ties((1, 0)))
        one, other = chain((1, 0), 0, [1, 2]), chain((1, 0), 0, [1, 3])
        self.assertIsNone(self.fault(chain((1, 0), 0, [1, 2, 3]), (), book, one, other))
        self.assertEqual(self.fault(chain((1, 0), 1, [1, 2, 3]), (), book, one, other), "one")

    def test_those_made_one_with_unlike_ties(self):
        # 3 stands for 1 and 4 for 2, but 3 and 4 have another tie than 1 and 2.
        book = Book(Ties((0, 1)))
        one, other = chain((0, 1), 0, [1, 2]), chain((0, 1), 1, [3, 4])
        self.assertEqual(self.fault(one, ((3, 1), (4, 2)), book, one, other), "other")


class TestResults(unittest.TestCase):
    def test_merged(self):
        told, pairs = chain((0, 1), 0, [1, 2, 5]), ((3, 2), (4, 5))
        merged = Merged(told, pairs)
        self.assertIs(merged.company, told)
        self.assertIs(merged.made_one, pairs)
        self.assertEqual(merged.dropped, (3, 4))
        self.assertEqual(Merged(told, ()).dropped, ())
        self.assertEqual([merged.host_of(label) for label in (1, 2, 3, 4, 5)], [1, 2, 2, 5, 5])

    def test_host_of_nobody(self):
        merged = Merged(chain((0, 1), 0, [0, 2]), ((1, 2),))
        self.assertEqual(merged.host_of(1), 2)
        for label in (3, True, False, None, "2", -1, [2]):
            with self.assertRaises(NoGuest) as caught:
                merged.host_of(label)
            self.assertIs(caught.exception.label, label)

    def test_equality(self):
        one, other = chain((0, 1), 0, [1, 2]), chain((0, 1), 1, [1, 2])
        self.assertEqual(Merged(one, ((3, 2),)), Merged(chain((0, 1), 0, [1, 2]), ((3, 2),)))
        for unlike in (Merged(other, ((3, 2),)), Merged(one, ()), Merged(one, ((3, 1),)), None, (one, ((3, 2),))):
            self.assertFalse(Merged(one, ((3, 2),)) == unlike)
        self.assertFalse(Merged(one, ((3, 1),)) == Merged(one, ((3, True),)))
        clash = Clash(one, (0, 0), (0, 1), (1, 2))
        self.assertEqual(Stuck(3, 4, clash), Stuck(3, 4, Clash(chain((0, 1), 0, [1, 2]), (0, 0), (0, 1), (1, 2))))
        for unlike in (
            Stuck(4, 4, clash), Stuck(3, 3, clash), Stuck(3, 4, Clash(other, (0, 0), (0, 1), (1, 2))),
            Stuck(3, 4, Clash(one, (0, 1), (0, 1), (1, 2))), Stuck(3, 4, Clash(one, (0, 0), (0, 0), (1, 2))),
            Stuck(3, 4, Clash(one, (0, 0), (0, 1), (1, 1))), None, clash,
        ):
            self.assertFalse(Stuck(3, 4, clash) == unlike)
        self.assertFalse(Stuck(1, 4, clash) == Stuck(True, 4, clash))

    def test_stuck_keeps_its_arguments(self):
        clash = Clash(chain((0, 1), 0, []), (), (), ())
        told = Stuck(7, 8, clash)
        self.assertEqual(list(vars(told)), ["x", "y", "clash"])
        self.assertEqual((told.x, told.y), (7, 8))
        self.assertIs(told.clash, clash)


class TestClassesOfThrees(unittest.TestCase):
    def test_everything_barred(self):
        book = Book(Ties((0, 1)), classes((0, 1)))
        one, other = chain((0, 1), 0, [1, 2]), chain((0, 1), 0, [1, 3])
        self.assertEqual(merge(book, one, other), Merged(one, ((3, 2),)))
        self.assertIs(type(merge(book, one, chain((0, 1), 1, [1, 3]))), Stuck)


if __name__ == "__main__":
    unittest.main()
