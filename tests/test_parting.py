"""[6.12]: questions that part two companies."""

import random
import unittest
from functools import lru_cache
from itertools import combinations, permutations

from asking import holds, kind, walked
from joinedguests.company import Company
from joinedguests.errors import BadDepth, BadNaming, NoGuest, OtherTies, TooMany, Unnamed
from joinedguests.meaning import meaning_of
from joinedguests.parting import parting_question
from joinedguests.questions import Question, Same
from joinedguests.ties import Ties
from oracle import BACKS, all_rows, chain, company, tie_in


@lru_cache(maxsize=None)
def parted(backs, one, ones, other, others, depth):
    """Whether a question of at most this depth parts: a search through the guests, by places."""
    for a, b in combinations(range(len(ones)), 2):
        if (ones[a] == ones[b]) != (others[a] == others[b]):
            return True
        if ones[a] != ones[b] and tie_in(backs, one, ones[a], ones[b]) != tie_in(backs, other, others[a], others[b]):
            return True
    if depth == 0:
        return False
    led = [[
        parted(backs, one, ones + (x,), other, others + (y,), depth - 1) for y in range(len(other))]
        for x in range(len(one))]
    return any(all(line) for line in led) or any(all(line[y] for line in led) for y in range(len(other)))


def ring(labels, cut=None):
    """A ring of tie 0 through these labels in order, or two rings, the first one of `cut` guests."""
    count = len(labels)
    lots = [range(count)] if cut is None else [range(cut), range(cut, count)]
    near = {frozenset((lot[k], lot[(k + 1) % len(lot)])) for lot in lots for k in range(len(lot))}
    rows = [[0 if frozenset((i, j)) in near else 1 for i in range(j)] for j in range(count)]
    return Company(Ties((0, 1)), labels, rows)


class PartingCase(unittest.TestCase):
    def check(self, one, one_naming, other, other_naming, depth):
        """Check what is told against the search; return whether the two are parted."""
        found = parting_question(one, one_naming, other, other_naming, depth)
        names = sorted(name for name, _ in one_naming)
        seats, other_seats = ({name: told.guests.index(label) for name, label in naming} for told, naming in (
            (one, one_naming), (other, other_naming)))
        backs = one.ties.backs
        expected = parted(
            backs, one.rows, tuple(seats[name] for name in names), other.rows, tuple(other_seats[name] for name in names),
            depth)
        self.assertEqual(found is not None, expected, (one.rows, one_naming, other.rows, other_naming, depth))
        if found is not None:
            self.assertIsInstance(found, Question)
            self.assertTrue(found.depth <= depth)
            self.assertTrue(set(found.free) <= set(names))
            self.assertTrue(found.size <= 200)
            self.assertFalse(any(kind(part) == "AtLeast" for part in walked(found)))
            self.assertIs(holds(found, backs, one.rows, seats), True)
            self.assertIs(holds(found, backs, other.rows, other_seats), False)
            self.assertIs(meaning_of(found, one, one_naming), True)
            self.assertIs(meaning_of(found, other, other_naming), False)
        return found is not None

    def namings(self, chance, one, other, most=2):
        names = chance.sample(("a", "b", "c", "zz", "some"), chance.randint(0, most))
        if not len(one) or not len(other):
            names = []
        ones = [(name, chance.choice(one.guests)) for name in names]
        others = [(name, chance.choice(other.guests)) for name in names]
        chance.shuffle(others)
        return tuple(ones), others


class TestParting(PartingCase):
    def test_random_companies(self):
        chance = random.Random(1)
        counts = {}
        for _ in range(1200):
            backs = chance.choice(BACKS)
            pair = []
            for _ in range(2):
                count = chance.randint(0, 6)
                rows = tuple(tuple(chance.randrange(len(backs)) for _ in range(j)) for j in range(count))
                if chance.random() < 0.5:
                    rows = tuple(tuple(min(tie, 1) for tie in row) for row in rows)
                pair.append(company(backs, rows, sorted(chance.sample(range(50), count))))
            depth = chance.randint(0, 2)
            ones, others = self.namings(chance, *pair)
            key = depth, self.check(pair[0], ones, pair[1], others, depth)
            counts[key] = counts.get(key, 0) + 1
        self.assertTrue(min(counts.get((depth, yes), 0) for depth in range(3) for yes in (True, False)) > 15, counts)

    def test_all_small_companies(self):
        """All pairs of companies of at most three guests of two ties, at each depth."""
        for backs in ((0, 1), (1, 0)):
            told = [company(backs, rows) for count in range(4) for rows in all_rows(backs, count)]
            for one in told:
                for other in told:
                    for depth in range(3):
                        self.check(one, (), other, (), depth)
                    if len(one) and len(other):
                        self.check(one, (("a", 0),), other, (("a", len(other) - 1),), 2)

    def test_companies_that_are_numberings_of_one_another(self):
        chance = random.Random(2)
        for backs in BACKS:
            for count in range(7):
                rows = tuple(tuple(chance.randrange(len(backs)) for _ in range(j)) for j in range(count))
                one = company(backs, rows)
                labels = chance.sample(range(30), count)
                other = one.renamed(list(zip(one.guests, labels)))
                for depth in range(3):
                    self.assertFalse(self.check(one, (), other, (), depth))
                    if count:
                        ones = [("a", chance.choice(one.guests)), ("b", chance.choice(one.guests))]
                        others = [(name, labels[label]) for name, label in ones[::-1]]
                        self.assertFalse(self.check(one, ones, other, others, depth))

    def test_one_tie_that_differs(self):
        chance = random.Random(3)
        counts = {True: 0, False: 0}
        for _ in range(150):
            backs = chance.choice(BACKS)
            count = chance.randint(2, 6)
            rows = [[chance.randrange(len(backs)) for _ in range(j)] for j in range(count)]
            one = company(backs, tuple(map(tuple, rows)))
            j = chance.randrange(1, count)
            i = chance.randrange(j)
            rows[j][i] = (rows[j][i] + 1) % len(backs)
            other = company(backs, tuple(map(tuple, rows)))
            # The two who are named have another tie.
            self.assertTrue(self.check(one, (("a", i), ("b", j)), other, (("b", j), ("a", i)), 0))
            counts[self.check(one, (), other, (), 2)] += 1
        self.assertTrue(counts[True] > 50, counts)

    def test_rings_of_unlike_sizes(self):
        five, six, threes = ring([0, 1, 2, 3, 4]), ring([1, 2, 3, 4, 5, 6]), ring([1, 2, 3, 4, 5, 6], 3)
        four, other_six = ring([0, 1, 2, 3]), ring([3, 4, 5, 6, 7, 8])
        for one, other in permutations((four, five, six, threes), 2):
            for depth in range(3):
                self.check(one, (), other, (), depth)
                self.check(one, (("p", one.guests[0]),), other, (("p", other.guests[2]),), depth)
        self.assertFalse(self.check(six, (), other_six, (), 2))
        # In two rings of three neighbours of one guest are neighbours: three names are needed to see it.
        self.assertFalse(self.check(six, (), threes, (), 2))
        self.assertTrue(self.check(six, (("a", 1),), threes, (("a", 1),), 2))

    def test_nobody(self):
        nobody, one, two = (chain((0, 1), 0, list(range(count))) for count in range(3))
        self.assertFalse(self.check(nobody, (), nobody, (), 2))
        self.assertFalse(self.check(nobody, (), one, (), 0))
        for depth in (1, 2):
            self.assertTrue(self.check(nobody, (), one, (), depth))
            self.assertTrue(self.check(two, (), nobody, (), depth))
        self.assertFalse(self.check(one, (), two, (), 1))
        self.assertTrue(self.check(one, (), two, (), 2))

    def test_two_names_of_one_guest(self):
        told = chain((0, 1), 0, [2, 5])
        self.assertTrue(self.check(told, (("a", 2), ("b", 2)), told, (("a", 2), ("b", 5)), 0))
        self.assertTrue(self.check(told, (("a", 2), ("b", 5)), told, (("a", 2), ("b", 2)), 0))
        self.assertFalse(self.check(told, (("a", 2), ("b", 2)), told, (("a", 5), ("b", 5)), 2))
        ways = chain((1, 0), 0, [2, 5])
        self.assertTrue(self.check(ways, (("a", 2), ("b", 5)), ways, (("a", 5), ("b", 2)), 0))

    def test_names_of_binders_are_new(self):
        """Names passed may be those that binders would take first."""
        one, other = chain((0, 1), 0, [1, 2, 3]), Company(Ties((0, 1)), (1, 2, 3), ((), (0,), (0, 1)))
        for names in (("a", "b"), ("b", "c"), ("a", "c"), ("b", "a")):
            ones = [(name, label) for name, label in zip(names, (1, 2))]
            self.check(one, ones, other, ones, 1)
            self.assertTrue(self.check(one, ones, other, ones, 2))

    def test_long_ones(self):
        """Of six guests each, with most ties alike."""
        chance = random.Random(4)
        longest = 0
        for _ in range(60):
            rows = [[[int(chance.random() < 0.5) for _ in range(j)] for j in range(6)] for _ in range(2)]
            one, other = (company((0, 1), tuple(map(tuple, part))) for part in rows)
            self.check(one, (("a", 0),), other, (("a", 0),), 2)
            found = parting_question(one, (), other, (), 2)
            self.check(one, (), other, (), 2)
            longest = max(longest, 0 if found is None else found.size)
        self.assertTrue(longest > 50, longest)


class TestRefused(unittest.TestCase):
    def setUp(self):
        self.told = chain((0, 1), 0, [1, 2, 3])
        self.many = chain((0, 1), 0, list(range(7)))

    def bad(self, error, told, *things):
        with self.assertRaises(error) as caught:
            parting_question(*things)
        self.assertEqual(vars(caught.exception), told)

    def test_other_ties(self):
        for backs in ((1, 0), (0, 1, 2)):
            self.bad(OtherTies, {}, self.told, [None], Company(Ties(backs)), [None], 9)

    def test_bad_naming(self):
        for naming, index, what in [
            ([("a", 1), None], 1, "pair"), ([("a",)], 0, "pair"), (["a1"], 0, "pair"), ([("A", 1)], 0, "name"),
            ([(1, 1)], 0, "name"), ([("a", 1), ("a", 1)], 1, "double"), ([("a", 99), ("b", 1, 2)], 1, "pair"),
        ]:
            told = {"index": index, "what": what}
            self.bad(BadNaming, told, self.told, naming, self.many, [("q", 1), 5], 9)
            self.bad(BadNaming, told, self.told, [("q", 99)], self.many, naming, 9)

    def test_unnamed(self):
        for ones, others, name in [
            ([("a", 1)], [], "a"), ([], [("a", 99)], "a"), ([("b", 1), ("c", 1)], [("a", 1), ("c", 1)], "a"),
            ([("z", 1), ("c", 1)], [("d", 1), ("c", 1)], "d"),
            ([("a", 99), ("b", 1), ("c", 1)], [("a", 1), ("b", 1)], "c"),
            ([(name, 1) for name in "zwvyxu"], [(name, 1) for name in "tsmopqrn"], "m"),
        ]:
            self.bad(Unnamed, {"name": name}, self.told, ones, self.many, others, 9)

    def test_no_guest(self):
        for ones, others, label in [
            ([("b", 8), ("a", 9)], [("a", 7), ("b", 7)], 8), ([("a", 1), ("b", 2)], [("b", 7), ("a", 8)], 7),
            ([("a", True)], [("a", 1)], True), ([("a", 1)], [("a", None)], None),
            ([("a", 1), ("b", 1), ("c", 4)], [("a", 1), ("b", 1), ("c", 1)], 4),
        ]:
            self.bad(NoGuest, {"label": label}, self.told, ones, self.many, others, 9)

    def test_too_many(self):
        three = [("a", 1), ("b", 1), ("c", 2)]
        self.bad(TooMany, {"count": 3}, self.many, three, self.many, three, 9)
        eight = chain((0, 1), 0, list(range(8)))
        self.bad(TooMany, {"count": 7}, self.many, three[:2], eight, three[:2], 9)
        self.bad(TooMany, {"count": 8}, self.told, (), eight, (), 9)
        self.bad(TooMany, {"count": 8}, eight, (), self.told, (), 9)
        self.assertIsNone(parting_question(eight.part_of(range(6)), (), chain((0, 1), 0, list(range(6))), (), 2))

    def test_depth(self):
        for depth in (-1, 3, True, False, None, "1", 1.0):
            self.bad(BadDepth, {"depth": depth}, self.told, (), self.told, (), depth)

    def test_nothing_that_is_passed_is_changed(self):
        ones, others = [["b", 1], ["a", 2]], [["a", 3], ["b", 3]]
        self.assertEqual(str(parting_question(self.told, ones, self.told, others, 0)), str(~Same("a", "b")))
        self.assertEqual((ones, others), ([["b", 1], ["a", 2]], [["a", 3], ["b", 3]]))


if __name__ == "__main__":
    unittest.main()
