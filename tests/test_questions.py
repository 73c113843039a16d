"""[6.1] to [6.3]: names and questions."""

import random
import unittest

from asking import BINDERS, free_names, kind, parts, random_question, walked
from joinedguests.errors import BadQuestion
from joinedguests.questions import (
    And, AtLeast, Everybody, Not, Or, Question, Same, Somebody, TieIs, is_name,
)

NO_NAMES = (None, True, 0, "", "abcdefg", "A", "aB", "a1", "a b", " a", "a_", "a\n", "\u00e9", "\u00df", b"a", ["a"], ("a",))
NO_QUESTIONS = (None, True, 1, "a=b", (), [Same("a", "b")], Question(), Question, Same)
ATOM = TieIs("a", 0, "b")


def long_question(size):
    """A question of just so many subquestions with the free names a and b."""
    question = ATOM
    while question.size < size:
        question = Not(question)
    return question


def deep_question(depth, names="pqrs"):
    """Binders within one another."""
    question = ATOM
    for name in names[:depth]:
        question = Somebody(name, question)
    return question


class QuestionCase(unittest.TestCase):
    def refused(self, what, cls, *told):
        with self.assertRaises(BadQuestion) as caught:
            cls(*told)
        self.assertEqual(caught.exception.what, what, (cls, told))


class TestNames(unittest.TestCase):
    def test_names(self):
        for thing in ("a", "z", "not", "some", "abcdef", "zzzzzz"):
            self.assertIs(is_name(thing), True, thing)

    def test_no_names(self):
        for thing in NO_NAMES:
            self.assertIs(is_name(thing), False, thing)


class TestAttributes(unittest.TestCase):
    def check(self, question, free, size, binders, depth, width):
        self.assertEqual(question.free, tuple(free))
        self.assertEqual(
            (question.size, question.binders, question.depth, question.width), (size, binders, depth, width))
        self.assertIs(question.is_plain, binders == 0)
        self.assertIsInstance(question, Question)

    def test_each_class(self):
        self.check(TieIs("b", 3, "a"), "ab", 1, 0, 0, 2)
        self.check(TieIs("c", 0, "c"), "c", 1, 0, 0, 1)
        self.check(Same("z", "b"), "bz", 1, 0, 0, 2)
        self.check(Not(ATOM), "ab", 2, 0, 0, 2)
        self.check(And(ATOM, TieIs("c", 1, "a")), "abc", 3, 0, 0, 3)
        self.check(Or(ATOM, Same("d", "c")), "abcd", 3, 0, 0, 4)
        self.check(Somebody("a", ATOM), "b", 2, 1, 1, 2)
        self.check(Everybody("c", ATOM), "ab", 2, 1, 1, 2)
        self.check(AtLeast(5, "b", Somebody("a", ATOM)), "", 3, 2, 2, 2)

    def test_parameters(self):
        for question, told in [
            (TieIs("b", 3, "a"), {"x": "b", "tie": 3, "y": "a"}), (Same("b", "a"), {"x": "b", "y": "a"}),
            (Not(ATOM), {"body": ATOM}), (And(ATOM, Not(ATOM)), {"one": ATOM, "other": Not(ATOM)}),
            (Or(Not(ATOM), ATOM), {"one": Not(ATOM), "other": ATOM}),
            (Somebody("a", ATOM), {"name": "a", "body": ATOM}), (Everybody("z", ATOM), {"name": "z", "body": ATOM}),
            (AtLeast(2, "b", ATOM), {"times": 2, "name": "b", "body": ATOM}),
        ]:
            for name, thing in told.items():
                self.assertEqual(getattr(question, name), thing)
            self.assertEqual(type(question)(**told), question)

    def test_width_within(self):
        wide = Somebody("d", Somebody("c", Or(ATOM, Same("d", "c"))))
        self.check(wide, "ab", 5, 2, 2, 4)
        self.check(And(Same("x", "y"), wide), "abxy", 7, 2, 2, 4)

    def test_long_names_in_order(self):
        self.check(And(TieIs("b", 0, "ab"), Same("abc", "aa")), ("aa", "ab", "abc", "b"), 3, 0, 0, 4)

    def test_random_questions(self):
        chance = random.Random(1)
        for _ in range(300):
            question = random_question(chance, "abc", 4, chance.randint(1, 25))
            every = walked(question)
            depths = {}
            for part in reversed(every):
                depths[id(part)] = max([depths[id(p)] for p in parts(part)], default=0) + (kind(part) in BINDERS)
            self.check(
                question, sorted(free_names(question)), len(every), sum(kind(part) in BINDERS for part in every),
                depths[id(question)], max(len(free_names(part)) for part in every))


class TestErrors(QuestionCase):
    def test_name(self):
        for thing in NO_NAMES:
            for cls, told in [
                (TieIs, (thing, 0, "a")), (TieIs, ("a", 0, thing)), (TieIs, (thing, 9, "a")), (Same, (thing, "a")),
                (Same, ("a", thing)), (Somebody, (thing, ATOM)), (Everybody, (thing, ATOM)), (AtLeast, (1, thing, ATOM)),
                (Somebody, (thing, None)), (Everybody, (thing, None)), (AtLeast, (1, thing, None)),
            ]:
                self.refused("name", cls, *told)

    def test_tie(self):
        for tie in (4, -1, True, False, None, "0", 0.0, (0,)):
            self.refused("tie", TieIs, "a", tie, "a")

    def test_question(self):
        for thing in NO_QUESTIONS:
            self.refused("question", Not, thing)
            for cls in (And, Or):
                self.refused("question", cls, thing, ATOM)
                self.refused("question", cls, ATOM, thing)
                self.refused("question", cls, long_question(200), thing)
            self.refused("question", Somebody, "a", thing)
            self.refused("question", Everybody, "a", thing)
            self.refused("question", AtLeast, 1, "a", thing)

    def test_wide(self):
        four = And(ATOM, Same("c", "d"))
        for cls in (And, Or):
            self.assertEqual(cls(four, ATOM).free, ("a", "b", "c", "d"))
            self.refused("wide", cls, four, Same("a", "e"))
            self.refused("wide", cls, Same("e", "e"), four)
            self.refused("wide", cls, four, Somebody("p", Same("p", "e")))
            # Names that are bound on one side are not counted there.
            self.assertEqual(cls(four, Somebody("e", Same("e", "a"))).width, 4)
            self.refused("wide", cls, long_question(200), And(Same("c", "d"), Same("e", "e")))

    def test_again(self):
        inner = Everybody("q", Somebody("p", ATOM))
        for cls, told in [(Somebody, ()), (Everybody, ()), (AtLeast, (2,))]:
            for name in "pq":
                self.refused("again", cls, *told, name, inner)
                self.refused("again", cls, *told, name, Not(And(ATOM, inner)))
            # It stands ahead of "deep".
            self.refused("again", cls, *told, "p", deep_question(3))
            # A name that is bound in the body and free elsewhere may be bound beside, not around.
            self.refused("again", cls, *told, "p", And(Same("p", "a"), Somebody("p", ATOM)))

    def test_a_name_bound_beside(self):
        beside = And(Somebody("p", Same("p", "a")), Everybody("p", Same("p", "b")))
        self.assertEqual((beside.free, beside.binders, beside.depth), (("a", "b"), 2, 1))
        both = Or(Same("p", "a"), Somebody("p", Same("p", "a")))
        self.assertEqual(both.free, ("a", "p"))
        self.refused("again", Somebody, "p", both)

    def test_deep(self):
        for cls, told in [(Somebody, ()), (Everybody, ()), (AtLeast, (1,))]:
            self.assertEqual(cls(*told, "s", deep_question(2)).depth, 3)
            self.refused("deep", cls, *told, "s", deep_question(3))
            self.refused("deep", cls, *told, "s", And(ATOM, Not(deep_question(3))))
            deep_and_long = deep_question(3)
            while deep_and_long.size < 200:
                deep_and_long = Not(deep_and_long)
            self.refused("deep", cls, *told, "s", deep_and_long)

    def test_times(self):
        for times in (0, 6, -1, True, False, None, "1", 1.0):
            self.refused("times", AtLeast, times, "a", ATOM)
            self.refused("times", AtLeast, times, None, None)
        for times in range(1, 6):
            self.assertEqual(AtLeast(times, "a", ATOM).times, times)

    def test_long(self):
        self.assertEqual(Not(long_question(199)).size, 200)
        self.refused("long", Not, long_question(200))
        for cls in (And, Or):
            self.assertEqual(cls(long_question(100), long_question(99)).size, 200)
            self.refused("long", cls, long_question(100), long_question(100))
        for cls, told in [(Somebody, ()), (Everybody, ()), (AtLeast, (1,))]:
            self.assertEqual(cls(*told, "a", long_question(199)).size, 200)
            self.refused("long", cls, *told, "a", long_question(200))

    def test_one_object_at_two_places(self):
        question = ATOM
        for _ in range(6):
            question = And(question, question)
        self.assertEqual(question.size, 127)
        self.refused("long", And, question, question)
        self.assertEqual(Or(question, And(ATOM, ATOM)).size, 131)


class TestTextsAndOperators(unittest.TestCase):
    def test_texts(self):
        for question, text in [
            (TieIs("a", 0, "b"), "a-0-b"), (Same("a", "b"), "a=b"), (Not(ATOM), "not a-0-b"),
            (And(ATOM, Same("not", "and")), "(a-0-b and not=and)"), (Or(ATOM, Not(ATOM)), "(a-0-b or not a-0-b)"),
            (Somebody("a", ATOM), "some a a-0-b"), (Everybody("xyz", ATOM), "all xyz a-0-b"),
            (AtLeast(3, "a", Or(ATOM, ATOM)), "least 3 a (a-0-b or a-0-b)"),
            (Not(Somebody("a", Not(And(ATOM, And(ATOM, ATOM))))), "not some a not (a-0-b and (a-0-b and a-0-b))"),
        ]:
            self.assertEqual(str(question), text)

    def test_text_of_a_long_question(self):
        self.assertEqual(str(long_question(200)), "not " * 199 + "a-0-b")

    def test_operators(self):
        q, r = ATOM, Somebody("a", Same("a", "c"))
        self.assertEqual(~q, Not(q))
        self.assertEqual(q & r, And(q, r))
        self.assertEqual(r | q, Or(r, q))
        self.assertEqual(~(q & ~r) | q, Or(Not(And(q, Not(r))), q))

    def test_operators_refuse_what_the_classes_refuse(self):
        for call, what in [
            (lambda: ATOM & None, "question"), (lambda: ATOM | True, "question"), (lambda: ~long_question(200), "long"),
            (lambda: And(ATOM, Same("c", "d")) & Same("e", "e"), "wide"),
        ]:
            with self.assertRaises(BadQuestion) as caught:
                call()
            self.assertEqual(caught.exception.what, what)

    def test_equality(self):
        def all_classes():
            q, r = TieIs("a", 1, "b"), Same("a", "b")
            return [
                q, TieIs("b", 1, "a"), TieIs("a", 0, "b"), TieIs("a", 1, "c"), TieIs("c", 1, "b"), r, Same("b", "a"),
                Same("a", "c"), Same("c", "b"), Not(q), Not(r), And(q, r), And(r, q), And(q, q), And(r, r), Or(q, r),
                Or(r, q), Or(q, q), Or(r, r), Somebody("a", q), Somebody("b", q), Somebody("a", r),
                Everybody("a", q), Everybody("b", q), Everybody("a", r), AtLeast(1, "a", q), AtLeast(2, "a", q),
                AtLeast(1, "b", q), AtLeast(1, "a", r), Not(Not(q)), And(And(q, r), r), And(q, And(r, r)),
            ]
        ones, others = all_classes(), all_classes()
        for i, one in enumerate(ones):
            for j, other in enumerate(others):
                self.assertIs(one == other, i == j, (str(one), str(other)))
                self.assertIs(one != other, i != j)
            for thing in (None, 1, str(one), (one,), Question()):
                self.assertFalse(one == thing)

    def test_long_questions_are_compared(self):
        self.assertEqual(long_question(200), long_question(200))
        self.assertNotEqual(long_question(200), long_question(199))


if __name__ == "__main__":
    unittest.main()
