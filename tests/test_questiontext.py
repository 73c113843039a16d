"""[11.1], [11.5], [11.6]: texts of questions; what [6.1] to [6.3] bound."""

import random
import re
import unittest

from asking import kind, random_question, walked
from joinedguests.errors import BadQuestion, BadText
from joinedguests.questions import And, AtLeast, Everybody, Not, Or, Same, Somebody, TieIs
from joinedguests.questiontext import parse_question, question_text

WORDS = ("not", "some", "all", "least", "and", "or")


class PlainParser:
    """A slow second parser: regular expressions and a recursion, the form of all ahead of the rest."""

    def __init__(self, text):
        self.text = text

    def tree(self):
        """What the text tells as nested tuples, or None if it is no text of a question."""
        found = self.question(0)
        return None if found is None or found[1] != len(self.text) else found[0]

    def match(self, pattern, at):
        return re.compile(pattern).match(self.text, at)

    def question(self, at):
        number, word = "(0|[1-9][0-9]{0,9})", "([a-z]+)"
        found = self.match(f"{word}-{number}-{word}(?![a-z])", at)
        if found:
            return (("tie", found[1], int(found[2]), found[3]), found.end())
        found = self.match(f"{word}={word}(?![a-z])", at)
        if found:
            return (("same", found[1], found[2]), found.end())
        found = self.match(f"(not) |(some|all) {word} |least {number} {word} ", at)
        if found:
            body = self.question(found.end())
            if body is None:
                return None
            if found[1]:
                return (("not", body[0]), body[1])
            if found[2]:
                return ((found[2], found[3], body[0]), body[1])
            return (("least", int(found[4]), found[5], body[0]), body[1])
        if self.text[at:at + 1] != "(":
            return None
        one = self.question(at + 1)
        joint = None if one is None else self.match(" (and|or) ", one[1])
        other = None if joint is None else self.question(joint.end())
        if other is None or self.text[other[1]:other[1] + 1] != ")":
            return None
        return ((joint[1], one[0], other[0]), other[1] + 1)


def built(tree):
    """The question of a tree; raises BadQuestion."""
    word, *parts = tree
    parts = [built(part) if isinstance(part, tuple) else part for part in parts]
    classes = {
        "tie": TieIs, "same": Same, "not": Not, "and": And, "or": Or, "some": Somebody, "all": Everybody, "least": AtLeast}
    return classes[word](*parts)


class TextCase(unittest.TestCase):
    def bad(self, what, text):
        with self.assertRaises(BadText) as caught:
            parse_question(text)
        self.assertEqual((caught.exception.row, caught.exception.what), (1, what), repr(text)[:200])

    def check(self, text):
        """Compare with the plain parser; return "form", "question" or "read"."""
        tree = PlainParser(text).tree()
        if tree is None:
            self.bad("form", text)
            return "form"
        try:
            expected = built(tree)
        except BadQuestion:
            self.bad("question", text)
            return "question"
        found = parse_question(text)
        self.assertEqual((type(found), found), (type(expected), expected))
        self.assertEqual(question_text(found), text)
        return "read"


class TestTexts(TextCase):
    def test_each_class(self):
        for question, text in [
            (TieIs("a", 0, "b"), "a-0-b"), (TieIs("guest", 3, "guest"), "guest-3-guest"), (Same("x", "yy"), "x=yy"),
            (Not(Same("a", "b")), "not a=b"), (Not(Not(TieIs("a", 1, "b"))), "not not a-1-b"),
            (And(Same("a", "b"), TieIs("a", 2, "c")), "(a=b and a-2-c)"),
            (Or(Not(Same("a", "b")), And(Same("c", "c"), Same("d", "d"))), "(not a=b or (c=c and d=d))"),
            (Somebody("a", Same("a", "b")), "some a a=b"), (Everybody("a", Not(Same("a", "b"))), "all a not a=b"),
            (AtLeast(3, "a", Or(Same("a", "b"), TieIs("a", 0, "b"))), "least 3 a (a=b or a-0-b)"),
            (Not(Somebody("a", AtLeast(5, "b", Same("a", "b")))), "not some a least 5 b a=b"),
        ]:
            self.assertEqual(question_text(question), text)
            self.assertEqual(str(question), text)
            self.assertEqual(parse_question(text), question)

    def test_random_questions_are_read_back(self):
        chance = random.Random(1)
        kinds = set()
        for _ in range(1500):
            question = random_question(chance, chance.sample(["a", "b", "some", "least", "guests"], 3), 4, chance.randint(1, 40))
            kinds.update(kind(part) for part in walked(question))
            text = question_text(question)
            self.assertEqual(text, str(question))
            found = parse_question(text)
            self.assertIsNot(found, question)
            self.assertEqual(found, question)
            self.assertEqual((found.free, found.size, found.depth), (question.free, question.size, question.depth))
        self.assertEqual(len(kinds), 8)

    def test_words_as_names(self):
        for word in WORDS:
            for text in (
                f"{word}-0-{word}", f"{word}={word}", f"not {word}={word}", f"some {word} {word}=a", f"all {word} a={word}",
                f"least 2 {word} {word}-1-{word}", f"({word}={word} and {word}={word})", f"({word}=a or a-0-{word})",
                f"not not {word}=not",
            ):
                self.assertEqual(self.check(text), "read", text)
            # Here two binders bind one name.
            expected = "question" if word in ("some", "all") else "read"
            self.assertEqual(self.check(f"some {word} all some least 1 all some={word}"), expected)
        self.assertEqual(parse_question("some some some=some"), Somebody("some", Same("some", "some")))
        self.assertEqual(parse_question("not not=not"), Not(Same("not", "not")))
        self.assertEqual(parse_question("(and=or and or=and)"), And(Same("and", "or"), Same("or", "and")))
        self.assertEqual(parse_question("all not not not=not"), Everybody("not", Not(Same("not", "not"))))
        self.assertEqual(parse_question("least 1 least least-0-a"), AtLeast(1, "least", TieIs("least", 0, "a")))


class TestForm(TextCase):
    def test_by_hand(self):
        for text in (
            "", " ", "a", "a=", "=a", "a==b", "a = b", "a=b ", " a=b", "a=b=c", "A=b", "a=B", "a1=b", "a=b\n", "\na=b", "a=b\nc=d",
            "a-0", "a-b", "a--b", "a-0-", "-0-b", "a-0-b-1-c", "a-00-b", "a-01-b", "a-+1-b", "a--1-b", "a-1.0-b", "a-x-b",
            "a-12345678901-b", "a-\u0661-b", "a-\u00b2-b", "\u00e9=b", "a=\u00e9", "a_b=c", "a-0-b c", "a-0 -b",
            "not", "not ", "not  a=b", "nota=b ", "Not a=b", "not(a=b and b=c)", "not\ta=b",
            "a=b and c=d", "(a=b)", "(a=b and c=d", "a=b and c=d)", "(a=b and c=d) ", "(a=b  and c=d)", "(a=b and  c=d)",
            "( a=b and c=d)", "(a=b and c=d )", "(a=band c=d)", "(a=b andc=d)", "(a=b nor c=d)", "(a=b and c=d and e=f)",
            "(a=b and c=d or e=f)", "(a=b, c=d)", "()", "(", ")", "((a=b and c=d))", "(a=b and )", "( and a=b)", "[a=b and c=d]",
            "(a=b or c=d))", "(a=b AND c=d)",
            "some a=b", "some a", "some a ", "some  a a=b", "some A a=b", "some a1 a=b", "some a  a=b", "some 1 a=b",
            "every a a=b", "all a", "all", "least a a=b", "least 1 a=b", "least 1 a", "least 01 a a=b", "least -1 a a=b",
            "least one a a=b", "least 1  a a=b", "least 12345678901 a a=b", "least  1 a a=b", "some a, a=b", "and a=b", "or a a=b",
            "least 1 2 a=b", "some some some", "not not", "\u0000a=b", "a=b\u0000", "a=b\r", "a\u00a0=b",
        ):
            self.assertEqual(self.check(text), "form", text)

    def test_no_strings(self):
        for thing in (None, True, 0, b"a=b", ["a=b"], ("a", "=", "b"), Same("a", "b"), {}, 1.5):
            self.bad("text", thing)

    def test_signs_taken_out_put_in_or_changed(self):
        chance = random.Random(2)
        counts = {}
        texts = [
            "a-0-b", "x=yy", "not (a=b or b-2-a)", "some a all b least 2 c (a-0-b and not b=c)", "least 1 some some=all",
            "(not not and=or and all or or-3-or)", "all guests (guests=a or not some b (b=a and b-1-guests))"]
        texts += [str(random_question(chance, "abcd", 4, 12)) for _ in range(12)]
        for text in texts:
            self.assertEqual(self.check(text), "read")
            others = set()
            for at in range(len(text) + 1):
                for sign in "ab0129 ()=-\n":
                    others.add(text[:at] + sign + text[at:])
                    others.add(text[:at] + sign + text[at + 1:])
                others.add(text[:at] + text[at + 1:])
                others.add(text[:at])
                others.add(text[at:])
                others.add(text[:at] + text[at:at + 2][::-1] + text[at + 2:])
            for other in sorted(others):
                what = self.check(other)
                counts[what] = counts.get(what, 0) + 1
        self.assertTrue(min(counts[what] for what in ("form", "question", "read")) > 100, counts)

    def test_random_words(self):
        chance = random.Random(3)
        signs = ["a", "b", "not", "some", "all", "least", "and", "or", " ", " ", "-", "=", "0", "1", "(", ")", "a=b", "a-0-b"]
        counts = {}
        for _ in range(20000):
            what = self.check("".join(chance.choice(signs) for _ in range(chance.randint(0, 9))))
            counts[what] = counts.get(what, 0) + 1
        self.assertTrue(counts["read"] > 50, counts)


class TestQuestion(TextCase):
    def test_refused_by_part_6(self):
        for text in (
            # Names of more than six letters, ties above 3, times that are not 1 to 5.
            "abcdefg=b", "b=abcdefg", "abcdefg-0-b", "some abcdefg a=b", "a-4-b", "a-9999999999-b", "least 0 a a=b",
            "least 6 a a=b", "least 9999999999 a a=b",
            # A name bound again, more than three binders within one another, more than four free names.
            "some a some a a=b", "some a not all a a=b", "some a (a=b and least 1 a a=b)",
            "some a some b some c some d a=b", "all a not least 2 b (a=b or some c all d c=d)",
            "(a=b and (c=d and e=e))", "((a=b or c=d) or e=f)",
        ):
            self.assertEqual(self.check(text), "question", text)

    def test_what_is_just_let(self):
        for text in (
            "abcdef=b", "a-3-b", "least 1 a a=b", "least 5 a a=b", "some a all b least 2 c (a=b and c=d)",
            "(some a a=b and all a a=b)", "some a (some b a=b or some b a-0-b)", "(a=b and c=d)", "a=a",
        ):
            self.assertEqual(self.check(text), "read", text)

    def test_sizes(self):
        """200 subquestions are let, 201 are not."""
        self.assertEqual(self.check("not " * 199 + "a=b"), "read")
        self.assertEqual(self.check("not " * 200 + "a=b"), "question")
        for count, what in [(99, "read"), (100, "question")]:
            self.assertEqual(self.check("(" * count + "a=b" + " and a-0-b)" * count), what)
            self.assertEqual(self.check("(a=b or " * count + "a=b" + ")" * count), what)
        self.assertEqual(parse_question("not " * 199 + "a=b").size, 200)
        self.assertEqual(self.check("(" * 250 + "a=b" + " and a-0-b)" * 250), "question")
        self.assertEqual(self.check("not " * 250 + "a=b"), "question")
        self.assertEqual(self.check("not " * 250 + "a="), "form")
        self.assertEqual(self.check("(" * 250), "form")

    def test_the_form_comes_first(self):
        for text in (
            "abcdefg=b ", "(a-4-b and c)", "(least 0 a a=b and a=b", "some a some a a=b)", "not " * 220 + "a", "least 9 a a=",
            "(abcdefg=b and a--b)",
        ):
            self.assertEqual(self.check(text), "form", text[:40])


if __name__ == "__main__":
    unittest.main()
