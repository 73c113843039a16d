"""[6.7] to [6.11]: questions in other shapes."""

import random
import unittest
from itertools import product

from asking import BINDERS, free_names, holds, kind, parts, random_question, walked
from joinedguests.errors import BadNaming, BadQuestion, NoPrefix, OtherTie
from joinedguests.questions import And, AtLeast, Everybody, Not, Or, Same, Somebody, TieIs
from joinedguests.shapes import (
    is_existential, is_universal, opposite_of, prefix_form, push_nots, rename_question, same_but_bound, split_prefix,
    spread_ties, subquestions,
)
from oracle import all_rows

Q = TieIs("a", 0, "b")
R = Same("b", "c")


def random_questions(seed, count, size, **more):
    chance = random.Random(seed)
    for _ in range(count):
        yield chance, random_question(chance, "abcd"[:chance.randint(1, 4)], 3, chance.randint(1, size), **more)


def same_in_all(one, other, expected=True, least=0, most=2):
    """Whether two questions have the same (or, if expected is False, the opposite) meaning in small companies."""
    names = sorted(free_names(one) | free_names(other))
    for backs in ((0, 1), (0, 2, 1)):
        if any(kind(part) == "TieIs" and part.tie >= len(backs) for part in walked(one) + walked(other)):
            continue
        for count in range(least, most + 1):
            for rows in all_rows(backs, count):
                for places in product(range(count), repeat=len(names)):
                    seats = dict(zip(names, places))
                    if (holds(one, backs, rows, seats) == holds(other, backs, rows, seats)) != expected:
                        return False
    return True


def bound_by_place(question, new=None, binders=()):
    """A text that tells two questions apart but not by the names of their binders.

    If `new` is passed, it tells of the question with these new names in the place of free ones.
    """
    def word(name):
        return str(len(binders) - 1 - binders[::-1].index(name)) if name in binders else (new or {}).get(name, name)
    if kind(question) == "TieIs":
        return f"({word(question.x)}-{question.tie}-{word(question.y)})"
    if kind(question) == "Same":
        return f"({word(question.x)}={word(question.y)})"
    if kind(question) in BINDERS:
        binders = binders + (question.name,)
    told = [kind(question), str(getattr(question, "times", ""))]
    return "(" + " ".join(told + [bound_by_place(part, new, binders) for part in parts(question)]) + ")"


def with_other_binders(chance, question, names=None):
    """The same question with other names for its binders, each at all places that it binds."""
    names = names or {}
    if kind(question) == "TieIs":
        return TieIs(names.get(question.x, question.x), question.tie, names.get(question.y, question.y))
    if kind(question) == "Same":
        return Same(names.get(question.x, question.x), names.get(question.y, question.y))
    if kind(question) in BINDERS:
        taken = set(names.values()) | free_names(question)
        name = chance.choice([name for name in ("k", "l", "m", "n", "p", "q") if name not in taken])
        body = with_other_binders(chance, question.body, {**names, question.name: name})
        if kind(question) == "AtLeast":
            return AtLeast(question.times, name, body)
        return type(question)(name, body)
    return type(question)(*[with_other_binders(chance, part, names) for part in parts(question)])


class TestSubquestions(unittest.TestCase):
    def test_order(self):
        question = Or(And(Q, Not(R)), AtLeast(2, "c", Somebody("d", R)))
        self.assertEqual(
            [str(part) for part in subquestions(question)],
            ["((a-0-b and not b=c) or least 2 c some d b=c)", "(a-0-b and not b=c)", "a-0-b", "not b=c", "b=c",
             "least 2 c some d b=c", "some d b=c", "b=c"])

    def test_random_questions(self):
        for _, question in random_questions(1, 200, 30):
            found = list(subquestions(question))
            self.assertEqual([id(part) for part in found], [id(part) for part in walked(question)])
            self.assertEqual(len(found), question.size)

    def test_longest(self):
        question = Q
        while question.size < 200:
            question = Not(question)
        self.assertEqual([part.size for part in subquestions(question)], list(range(200, 0, -1)))


class TestNots(unittest.TestCase):
    def rule(self, question, pushed, opposite):
        self.assertEqual(push_nots(question), pushed)
        self.assertEqual(opposite_of(question), opposite)

    def test_each_rule(self):
        self.rule(Q, Q, Not(Q))
        self.rule(R, R, Not(R))
        self.rule(Not(Q), Not(Q), Q)
        self.rule(Not(Not(Q)), Q, Not(Q))
        self.rule(Not(Not(Not(Q))), Not(Q), Q)
        self.rule(And(Q, R), And(Q, R), Or(Not(Q), Not(R)))
        self.rule(Or(Q, Not(R)), Or(Q, Not(R)), And(Not(Q), R))
        self.rule(Not(And(Not(Q), R)), Or(Q, Not(R)), And(Not(Q), R))
        self.rule(Somebody("a", Not(Q)), Somebody("a", Not(Q)), Everybody("a", Q))
        self.rule(Everybody("a", Q), Everybody("a", Q), Somebody("a", Not(Q)))
        self.rule(Not(Everybody("a", Not(Q))), Somebody("a", Q), Everybody("a", Not(Q)))
        told = AtLeast(3, "a", Or(Q, Not(Not(R))))
        self.rule(told, AtLeast(3, "a", Or(Q, R)), Not(AtLeast(3, "a", Or(Q, R))))
        self.rule(Not(told), Not(AtLeast(3, "a", Or(Q, R))), AtLeast(3, "a", Or(Q, R)))

    def test_random_questions(self):
        for _, question in random_questions(2, 150, 14):
            for found, expected in ((push_nots(question), True), (opposite_of(question), False)):
                self.assertTrue(same_in_all(question, found, expected), str(question))
                for part in walked(found):
                    if kind(part) == "Not":
                        self.assertIn(kind(part.body), ("TieIs", "Same", "AtLeast"))

    def test_too_long(self):
        # 67 atoms and 66 signs are 133 subquestions, with a Not over each atom 200.
        question = Q
        for _ in range(66):
            question = And(Q, question)
        self.assertEqual((question.size, opposite_of(question).size), (133, 200))
        self.assertEqual(push_nots(Not(question)).size, 200)
        for call, told in ((opposite_of, And(Q, question)), (push_nots, Not(And(Q, question)))):
            with self.assertRaises(BadQuestion) as caught:
                call(told)
            self.assertEqual(caught.exception.what, "long")
        self.assertEqual(push_nots(And(Q, question)).size, 135)

    def test_longest_chain(self):
        question = Q
        while question.size < 200:
            question = Not(question)
        self.rule(question, Not(Q), Q)
        self.rule(question.body, Q, Not(Q))


class TestSameButBound(unittest.TestCase):
    def check(self, one, other, expected):
        self.assertIs(same_but_bound(one, other), expected, (str(one), str(other)))
        self.assertIs(same_but_bound(other, one), expected)

    def test_by_hand(self):
        some_a, some_c = Somebody("a", Q), Somebody("c", TieIs("c", 0, "b"))
        self.check(some_a, some_c, True)
        self.check(some_a, Somebody("c", TieIs("c", 0, "d")), False)
        self.check(some_a, Somebody("c", TieIs("c", 1, "b")), False)
        self.check(some_a, Everybody("c", TieIs("c", 0, "b")), False)
        self.check(some_a, Somebody("c", Q), False)
        # The free b would be bound.
        self.check(some_a, Somebody("b", TieIs("b", 0, "b")), False)
        self.check(AtLeast(2, "a", Q), AtLeast(2, "c", TieIs("c", 0, "b")), True)
        self.check(AtLeast(2, "a", Q), AtLeast(3, "a", Q), False)
        self.check(Q, TieIs("c", 0, "b"), False)
        self.check(Q, Q, True)
        self.check(And(Q, R), Or(Q, R), False)
        self.check(Not(Q), Q, False)

    def test_names_that_change_places(self):
        one = Somebody("p", Everybody("q", TieIs("p", 0, "q")))
        self.check(one, Somebody("q", Everybody("p", TieIs("q", 0, "p"))), True)
        self.check(one, Somebody("q", Everybody("p", TieIs("p", 0, "q"))), False)

    def test_bound_here_and_free_there(self):
        one = And(Same("a", "b"), Somebody("a", Q))
        self.check(one, And(Same("a", "b"), Somebody("c", TieIs("c", 0, "b"))), True)
        self.check(one, And(Same("c", "b"), Somebody("c", TieIs("c", 0, "b"))), False)
        self.check(And(Somebody("a", Q), Q), And(Somebody("c", TieIs("c", 0, "b")), TieIs("c", 0, "b")), False)
        self.check(
            And(Somebody("a", Q), Everybody("a", Q)), And(Somebody("a", Q), Everybody("c", TieIs("c", 0, "b"))), True)

    def test_names_that_bind_nothing(self):
        self.check(Somebody("c", Q), Somebody("d", Q), True)
        self.check(Somebody("c", Q), Somebody("a", Q), False)

    def test_random_questions(self):
        told = []
        for chance, question in random_questions(3, 250, 9):
            changed = with_other_binders(chance, question)
            self.check(question, changed, True)
            told.append((question, bound_by_place(question)))
        for one, text in told[:90]:
            for other, other_text in told:
                self.check(one, other, text == other_text)


class TestRename(unittest.TestCase):
    def bad(self, index, what, pairs):
        with self.assertRaises(BadNaming) as caught:
            rename_question(And(Q, R), pairs)
        self.assertEqual((caught.exception.index, caught.exception.what), (index, what), pairs)

    def test_errors(self):
        for pair in (None, "ab", ("a",), ("a", "b", "c"), (), 0, {"a": "b"}):
            self.bad(0, "pair", (pair, None))
            self.bad(1, "pair", (("a", "b"), pair))
        for name in (None, True, "", "A", "abcdefg", 0, ["a"]):
            self.bad(0, "name", ((name, "a"),))
            self.bad(1, "name", (("a", "b"), ["b", name]))
        self.bad(2, "double", (("a", "b"), ("c", "b"), ("a", "b"), None))
        # Also for names that are not free.
        self.bad(1, "double", (("x", "b"), ("x", "c")))

    def test_by_hand(self):
        question = And(Q, R)
        self.assertEqual(rename_question(question, ()), question)
        self.assertEqual(rename_question(question, [("a", "x")]), And(TieIs("x", 0, "b"), R))
        self.assertEqual(rename_question(question, [["x", "a"], ["y", "b"]]), question)
        # Two names onto one, names that change places.
        self.assertEqual(
            rename_question(question, (("a", "z"), ("c", "z"))), And(TieIs("z", 0, "b"), Same("b", "z")))
        self.assertEqual(
            rename_question(question, (("a", "b"), ("b", "a"))), And(TieIs("b", 0, "a"), Same("a", "c")))
        self.assertEqual(
            rename_question(question, (("a", "b"), ("b", "c"), ("c", "a"))), And(TieIs("b", 0, "c"), Same("c", "a")))

    def test_bound_places_stay(self):
        question = And(Q, Somebody("a", Q))
        self.assertEqual(
            rename_question(question, (("a", "c"),)), And(TieIs("c", 0, "b"), Somebody("a", Q)))
        self.assertEqual(rename_question(Somebody("a", Q), (("a", "c"),)), Somebody("a", Q))
        # A binder that does not catch keeps its name: a is not free in it.
        beside = And(Q, Everybody("p", Same("p", "b")))
        self.assertEqual(
            rename_question(beside, (("a", "p"),)), And(TieIs("p", 0, "b"), Everybody("p", Same("p", "b"))))
        # The pair tells of a name that is not free, so that nothing is caught.
        self.assertEqual(rename_question(Somebody("p", Q), (("x", "p"),)), Somebody("p", Q))

    def check_caught(self, question, pairs, expected):
        found = rename_question(question, pairs)
        self.assertTrue(same_but_bound(found, expected), str(found))
        self.assertEqual(found.free, expected.free)
        return found

    def test_catching_binders_at_each_depth(self):
        question = Q
        for depth, name in enumerate("pqr"):
            question = (Somebody, Everybody, Somebody)[depth](name, And(question, Same(name, "b")))
            for caught in "pqr"[:depth + 1]:
                found = rename_question(question, (("a", caught),))
                names = [part.name for part in walked(found) if kind(part) in BINDERS]
                for kept, name_now in zip("pqr"[:depth + 1][::-1], names):
                    self.assertEqual(name_now == kept, kept != caught, str(found))
                self.assertEqual(found.free, tuple(sorted(("b", caught))))
                self.assertEqual(
                    bound_by_place(found), bound_by_place(question).replace("(a-", f"({caught}-"))

    def test_catching_all_at_once(self):
        question = Somebody("p", Everybody("q", And(TieIs("a", 0, "p"), TieIs("q", 0, "b"))))
        expected = Somebody("k", Everybody("l", And(TieIs("q", 0, "k"), TieIs("l", 0, "p"))))
        self.check_caught(question, (("a", "q"), ("b", "p")), expected)
        expected = Somebody("k", Everybody("l", And(TieIs("p", 0, "k"), TieIs("l", 0, "p"))))
        found = self.check_caught(question, (("a", "p"), ("b", "p")), expected)
        self.assertEqual(found.body.name, "q")

    def test_random_questions(self):
        caught = 0
        for chance, question in random_questions(4, 1500, 12):
            names = ["a", "b", "c", "d", "p", "q", "r", "s", "t"]
            olds = chance.sample(names, chance.randint(1, 5))
            pairs = [(old, chance.choice(names)) for old in olds]
            new = {old: name for old, name in pairs if old in free_names(question)}
            found = rename_question(question, pairs)
            self.assertEqual(bound_by_place(found), bound_by_place(question, new), (str(question), pairs))
            catches = False
            for part, now in zip(walked(question), walked(found)):
                self.assertEqual(kind(part), kind(now))
                if kind(part) in BINDERS:
                    is_caught = part.name in [new[old] for old in free_names(part) if old in new]
                    self.assertEqual(part.name != now.name, is_caught, (str(question), pairs, str(found)))
                    catches = catches or is_caught
            caught += catches
        self.assertGreater(caught, 50)


class TestPrefixes(unittest.TestCase):
    def check(self, question, binders, body, universal, existential):
        self.assertEqual(split_prefix(question), (binders, body))
        self.assertIs(is_universal(question), universal, str(question))
        self.assertIs(is_existential(question), existential, str(question))

    def test_by_hand(self):
        self.check(Q, (), Q, True, True)
        self.check(Somebody("a", Q), (("some", "a"),), Q, False, True)
        self.check(Everybody("a", Q), (("all", "a"),), Q, True, True)
        self.check(
            Somebody("c", Everybody("a", Q)), (("some", "c"), ("all", "a")), Q, False, True)
        self.check(
            Everybody("c", Somebody("a", Q)), (("all", "c"), ("some", "a")), Q, False, False)
        self.check(
            Everybody("c", Everybody("b", Everybody("a", Q))), (("all", "c"), ("all", "b"), ("all", "a")), Q, True, True)
        self.check(
            Somebody("c", Everybody("b", Somebody("a", Q))), (("some", "c"), ("all", "b"), ("some", "a")), Q, False,
            False)
        self.check(
            Somebody("c", Somebody("b", Everybody("a", Q))), (("some", "c"), ("some", "b"), ("all", "a")), Q, False,
            True)

    def test_bodies_that_are_not_plain(self):
        least = AtLeast(2, "a", Q)
        self.check(least, (), least, False, False)
        self.check(Somebody("b", least), (("some", "b"),), least, False, False)
        self.check(Everybody("b", least), (("all", "b"),), least, False, False)
        inner = Not(Somebody("a", Q))
        self.check(Everybody("b", inner), (("all", "b"),), inner, False, False)
        both = And(Somebody("a", Q), Q)
        self.check(both, (), both, False, False)


class TestPrefixForm(unittest.TestCase):
    def check(self, question):
        found = prefix_form(question)
        binders, body = split_prefix(found)
        self.assertIs(body.is_plain, True)
        self.assertEqual(found.free, question.free)
        self.assertLessEqual(found.binders, question.binders)
        self.assertTrue(same_in_all(question, found, least=1), (str(question), str(found)))
        return found

    def test_by_hand(self):
        for question in (
            Q, Not(Q), Somebody("a", Q), Not(Somebody("a", Q)), And(Somebody("a", Q), Everybody("a", Q)),
            Or(Q, Somebody("a", Q)), Not(Or(Everybody("b", Q), Not(Somebody("a", Q)))), Somebody("c", Q),
            And(Somebody("c", Q), R), Everybody("a", Not(Everybody("b", Q))), Not(And(Not(Somebody("p", R)), R)),
        ):
            self.check(question)

    def test_a_company_of_nobody_may_differ(self):
        self.check(Or(Somebody("a", Same("a", "a")), Everybody("a", Same("a", "a"))))

    def test_three_guests(self):
        question = Everybody("a", Or(Everybody("b", Or(Q, Same("a", "b"))), Not(Everybody("b", Not(Q)))))
        self.assertTrue(same_in_all(question, prefix_form(question), least=1, most=3))
        question = Everybody("a", And(Somebody("b", Q), Somebody("b", TieIs("a", 1, "b"))))
        self.assertTrue(same_in_all(question, prefix_form(question), least=1, most=3))

    def test_random_questions(self):
        done = 0
        for _, question in random_questions(5, 400, 12):
            try:
                self.check(question)
                done += question.binders > 0
            except NoPrefix as error:
                self.assertEqual(error.what, self.word(question))
        self.assertGreater(done, 60)

    def word(self, question):
        binders = sum(kind(part) in BINDERS for part in walked(question))
        if any(kind(part) == "AtLeast" for part in walked(question)):
            return "times"
        if binders > 3:
            return "deep"
        return "wide" if binders + len(free_names(question)) > 4 else None

    def refused(self, what, question):
        with self.assertRaises(NoPrefix) as caught:
            prefix_form(question)
        self.assertEqual(caught.exception.what, what)

    def test_refused(self):
        some = Somebody("p", Same("p", "p"))
        self.refused("times", AtLeast(1, "a", Q))
        self.refused("times", And(Q, Not(AtLeast(1, "a", Q))))
        three = And(some, And(some, some))
        self.check(three)
        self.refused("deep", And(some, three))
        self.refused("deep", And(And(Q, R), And(some, three)))
        self.refused("times", And(And(some, three), AtLeast(1, "a", Q)))
        self.check(And(three, Same("a", "a")))
        self.refused("wide", And(three, Q))
        self.refused("wide", And(And(Q, Same("c", "d")), some))
        self.check(And(And(Q, R), some))

    def test_longest(self):
        # As long as can be, and no longer behind it.
        body = Q
        while body.size < 198:
            body = Not(body)
        found = self.check(Not(Somebody("a", body)))
        self.assertLessEqual(found.size, 200)


class TestSpreadTies(unittest.TestCase):
    def test_groups(self):
        a, b, c, d = [TieIs("x", tie, "y") for tie in range(4)]
        for group, expected in [
            ((2,), c), ((1, 3), Or(b, d)), ([3, 1], Or(d, b)), ((0, 1, 2), Or(Or(a, b), c)),
            ((3, 2, 1, 0), Or(Or(Or(d, c), b), a)), ((1, 1), Or(b, b)),
        ]:
            self.assertEqual(spread_ties(a, (group,)), expected)
            self.assertEqual(spread_ties(b, [(0,), group]), expected)

    def test_everywhere(self):
        question = And(Not(Q), Or(R, AtLeast(2, "b", Everybody("c", Somebody("d", TieIs("c", 1, "d"))))))
        spread = Or(TieIs("c", 0, "d"), TieIs("c", 2, "d"))
        self.assertEqual(
            spread_ties(question, ((1,), (0, 2))),
            And(Not(TieIs("a", 1, "b")), Or(R, AtLeast(2, "b", Everybody("c", Somebody("d", spread))))))
        self.assertEqual(spread_ties(R, ()), R)

    def test_other_tie(self):
        question = And(Or(TieIs("a", 2, "b"), TieIs("a", 3, "b")), Q)
        for groups, tie in [((), 2), (((0,),), 2), (((0,), (0,), (0,)), 3)]:
            with self.assertRaises(OtherTie) as caught:
                spread_ties(question, groups)
            self.assertEqual(caught.exception.tie, tie)

    def test_too_long(self):
        question = Q
        for _ in range(24):
            question = And(Q, question)
        # 25 atoms and 24 signs; each atom becomes 7 subquestions.
        self.assertEqual(spread_ties(question, ((0, 1, 2, 3),)).size, 25 * 7 + 24)
        with self.assertRaises(BadQuestion) as caught:
            spread_ties(And(Q, question), ((0, 1, 2, 3),))
        self.assertEqual(caught.exception.what, "long")
        with self.assertRaises(OtherTie):
            spread_ties(And(And(Q, question), TieIs("a", 1, "b")), ((0, 1, 2, 3),))


if __name__ == "__main__":
    unittest.main()
