"""[11.1] to [11.4], [11.6]: texts of ties, companies and books."""

import random
import unittest

from joinedguests.book import Book
from joinedguests.booktext import book_text, parse_book
from joinedguests.company import Company
from joinedguests.errors import BadText
from joinedguests.ties import Ties
from joinedguests.tietext import company_text, parse_company, parse_ties, ties_text
from oracle import BACKS, all_books, chain, classes, closed

PARSERS = (parse_ties, parse_company, parse_book)
NO_NUMBERS = ("", "00", "01", "-1", "+1", "1.0", "a", "12345678901", "0x1", "1_0", "\u0661", "\u00b2", "\u0967", "1\r", " 1")


class TextCase(unittest.TestCase):
    def bad(self, parse, row, what, text):
        with self.assertRaises(BadText) as caught:
            parse(text)
        self.assertEqual((caught.exception.row, caught.exception.what), (row, what), repr(text))


class TestAll(TextCase):
    def test_no_strings(self):
        for parse in PARSERS:
            for thing in (None, True, 0, b"0-0 1-1", ["0-0 1-1"], ("0-0", "1-1"), Ties((0, 1)), {}):
                self.bad(parse, 1, "text", thing)

    def test_first_row(self):
        """Row 1 is read alike in all three texts."""
        for text, what in [
            ("", "form"), (" ", "form"), ("0-0  1-1", "form"), (" 0-0 1-1", "form"), ("0-0 1-1 ", "form"),
            ("0-0\t1-1", "form"), ("0-0,1-1", "form"), ("0 1", "form"), ("0-0-0 1-1", "form"), ("0--0 1-1", "form"),
            ("-0-0 1-1", "form"), ("0-0 1-", "form"), ("0-0 -1", "form"), ("0-0 1-1\r", "form"), ("0:0 1:1", "form"),
            ("1-1 0-0", "order"), ("0-0 2-2", "order"), ("0-0 0-0", "order"), ("1-0", "order"),
            ("0-0", "count"), ("0-0 1-1 2-2 3-3 4-4", "count"), ("0-9", "count"),
            ("0-0 1-2", "tie"), ("0-3 1-1 2-2", "tie"), ("0-9999999999 1-0", "tie"), ("0-1 1-2", "tie"),
            ("0-1 1-1", "back"), ("0-1 1-2 2-0", "back"), ("0-0 1-0", "back"),
        ]:
            for parse in PARSERS:
                self.bad(parse, 1, what, text)
            for parse in PARSERS[1:]:
                self.bad(parse, 1, what, text + "\nrubbish")
        for word in NO_NUMBERS:
            for text in (f"0-0 1-{word}", f"{word}-0 1-1", f"0-{word} 9-9"):
                for parse in PARSERS:
                    self.bad(parse, 1, "form", text)

    def test_signs_taken_out_put_in_or_changed(self):
        """Each text that is read is the text of what it tells, but for the readings of threes in a book's."""
        rows = ((), (1,), (0, 2), (2, 1, 0))
        read = 0
        for parse, tell, text in [
            (parse_ties, ties_text, "0-0 1-2 2-1"),
            (parse_company, company_text, company_text(Company(Ties((0, 2, 1)), (0, 3, 10, 11), rows))),
            (parse_company, company_text, company_text(Company(Ties((1, 0))))),
            (parse_book, book_text, book_text(Book(Ties((0, 2, 1)), [(0, 0, 0), (0, 1, 1), (1, 1, 1)]))),
        ]:
            self.assertEqual(tell(parse(text)), text)
            for changed in changes_of(text):
                try:
                    told = parse(changed)
                except BadText as error:
                    self.assertIn(error.row, range(1, changed.count("\n") + 2))
                    continue
                read += 1
                if parse == parse_book:
                    self.check_book_text(changed, told)
                else:
                    self.assertEqual(tell(told), changed)
        self.assertGreater(read, 40)

    def check_book_text(self, text, book):
        first, *rows = text.split("\n")
        self.assertEqual(ties_text(book.ties), first)
        threes = [tuple(int(word) for word in row.split(" ")) for row in rows]
        self.assertEqual([" ".join(str(tie) for tie in three) for three in threes], rows)
        self.assertEqual(set(book.barred), closed(book.ties.backs, threes))


def changes_of(text):
    """All texts with one sign taken out, put in or changed."""
    for place in range(len(text) + 1):
        for sign in "0123 -:\n\ra":
            yield text[:place] + sign + text[place:]
            if place < len(text) and sign != text[place]:
                yield text[:place] + sign + text[place + 1:]
        if place < len(text):
            yield text[:place] + text[place + 1:]


class TestTies(TextCase):
    def test_texts(self):
        self.assertEqual(ties_text(Ties((0, 2, 1))), "0-0 1-2 2-1")
        self.assertEqual(ties_text(Ties((1, 0))), "0-1 1-0")
        for backs in BACKS:
            text = ties_text(Ties(backs))
            self.assertEqual(text, " ".join(f"{tie}-{back}" for tie, back in enumerate(backs)))
            self.assertEqual(parse_ties(text), Ties(backs))

    def test_one_row(self):
        for text in ("0-0 1-1\n", "\n0-0 1-1", "0-0\n1-1", "0-0 1-1\n0:", "9-9\n"):
            self.bad(parse_ties, 1, "form", text)


class TestCompanies(TextCase):
    def test_by_hand(self):
        told = Company(Ties((0, 2, 1)), (0, 7, 12), ((), (1,), (0, 2)))
        self.assertEqual(company_text(told), "0-0 1-2 2-1\n0:\n7: 1\n12: 0 2")
        self.assertEqual(parse_company("0-0 1-2 2-1\n0:\n7: 1\n12: 0 2"), told)
        self.assertEqual(company_text(Company(Ties((1, 0)))), "0-1 1-0")
        self.assertEqual(parse_company("0-1 1-0"), Company(Ties((1, 0))))

    def test_read_back(self):
        chance = random.Random(1)
        for count in range(61):
            for backs in BACKS:
                labels = sorted(chance.sample(range(10 ** 9 + 1), count))
                rows = [[chance.randrange(len(backs)) for _ in range(j)] for j in range(count)]
                told = Company(Ties(backs), labels, rows)
                text = company_text(told)
                self.assertEqual(len(text.split("\n")), count + 1)
                self.assertEqual(parse_company(text), told)
        told = Company(Ties((0, 1)), (0, 10 ** 9), ((), (1,)))
        self.assertEqual(parse_company(company_text(told)), told)

    def test_form(self):
        for row in (
            "", "1", ":", " 1:", "1 :", "1: ", "1:  ", "1:0", "1: 0 ", "1:  0", "1: 0  1", "1: a", "a: 0", "1: 0:", "1:: 0",
            "1:\t0", "1: 00", "01: 0", "-1: 0", "1: -0", "1: 0\r", "1; 0", "12345678901: 0", "1: 12345678901", "1:\u00a00",
        ):
            self.bad(parse_company, 2, "form", "0-0 1-1\n" + row)
            self.bad(parse_company, 3, "form", "0-0 1-1\n0:\n" + row + "\n0: 9")
        for word in NO_NUMBERS:
            self.bad(parse_company, 2, "form", f"0-0 1-1\n{word}:")
            self.bad(parse_company, 3, "form", f"0-0 1-1\n1:\n2: {word}")

    def test_label(self):
        self.bad(parse_company, 2, "label", "0-0 1-1\n1000000001:")
        self.bad(parse_company, 3, "label", "0-0 1-1\n1:\n9999999999: 7 7")
        self.assertEqual(parse_company("0-0 1-1\n1000000000:").guests, (10 ** 9,))

    def test_order(self):
        self.bad(parse_company, 3, "order", "0-0 1-1\n5:\n5: 0")
        self.bad(parse_company, 3, "order", "0-0 1-1\n5:\n4: 7 7")
        self.bad(parse_company, 4, "order", "0-0 1-1\n5:\n8: 0\n6:")

    def test_length(self):
        self.bad(parse_company, 2, "length", "0-0 1-1\n0: 0")
        self.bad(parse_company, 3, "length", "0-0 1-1\n0:\n1:")
        self.bad(parse_company, 3, "length", "0-0 1-1\n0:\n1: 9 9")
        self.bad(parse_company, 4, "length", "0-0 1-1\n0:\n1: 1\n2: 0")

    def test_tie(self):
        self.bad(parse_company, 3, "tie", "0-0 1-1\n0:\n1: 2")
        self.bad(parse_company, 4, "tie", "0-0 1-1 2-2\n0:\n1: 2\n2: 0 3\n3:")

    def test_many(self):
        text = company_text(chain((0, 1), 0, list(range(60))))
        self.assertEqual(len(parse_company(text)), 60)
        for row in ("60:" + " 0" * 60, "", "rubbish", "1:", "60:" + " 9" * 60):
            self.bad(parse_company, 62, "many", text + "\n" + row)
            self.bad(parse_company, 62, "many", text + "\n" + row + "\n\n")
        # A row ahead that is wrong comes first.
        self.bad(parse_company, 61, "tie", text[:-1] + "7\n60:")

    def test_the_first_row_that_is_wrong(self):
        self.bad(parse_company, 1, "back", "0-1 1-1\nrubbish")
        self.bad(parse_company, 2, "form", "0-0 1-1\n\n1000000001:")
        self.bad(parse_company, 2, "length", "0-0 1-1\n3: 0\n\n")
        self.bad(parse_company, 2, "form", "0-0 1-1\n")


class TestBooks(TextCase):
    def test_by_hand(self):
        self.assertEqual(book_text(Book(Ties((0, 1)), [(1, 0, 0), (1, 1, 1)])), "0-0 1-1\n0 0 1\n1 1 1")
        self.assertEqual(book_text(Book(Ties((1, 0)))), "0-1 1-0")
        self.assertEqual(parse_book("0-0 1-1\n1 1 1\n1 0 0\n0 1 0\n1 1 1"), Book(Ties((0, 1)), [(0, 0, 1), (1, 1, 1)]))

    def test_read_back(self):
        for backs in BACKS:
            books = all_books(backs) if len(classes(backs)) < 8 else [
                Book(Ties(backs), classes(backs)[first::step]) for first in range(4) for step in range(1, 6)]
            for book in books:
                text = book_text(book)
                self.assertEqual(
                    text.split("\n")[1:], [" ".join(str(tie) for tie in three) for three in book.least_barred])
                self.assertEqual(parse_book(text), book)

    def test_any_reading_in_any_order(self):
        chance = random.Random(2)
        for backs in BACKS:
            book = Book(Ties(backs), chance.sample(classes(backs), 2))
            threes = list(book.barred) * 2
            chance.shuffle(threes)
            rows = [" ".join(str(tie) for tie in three) for three in threes]
            self.assertEqual(parse_book("\n".join([ties_text(book.ties)] + rows)), book)

    def test_form(self):
        for row in (
            "", " ", "0 0", "0 0 0 0", "0  0 0", " 0 0 0", "0 0 0 ", "0-0-0", "0,0,0", "000", "a 0 0", "0 0 0\r", "0\t0 0",
            "(0 0 0)", "0 0 -1",
        ):
            self.bad(parse_book, 2, "form", "0-0 1-1\n" + row)
            self.bad(parse_book, 3, "form", "0-0 1-1\n0 1 1\n" + row + "\n9 9 9")
        for word in NO_NUMBERS:
            self.bad(parse_book, 2, "form", f"0-0 1-1\n0 {word} 0")

    def test_tie(self):
        for row in ("2 0 0", "0 2 0", "0 0 2", "0 9999999999 0"):
            self.bad(parse_book, 2, "tie", "0-0 1-1\n" + row)
            self.bad(parse_book, 3, "tie", "0-0 1-1\n0 0 0\n" + row + "\n\n")
        self.assertEqual(parse_book("0-0 1-1 2-2\n2 0 0"), Book(Ties((0, 1, 2)), [(0, 0, 2)]))

    def test_the_first_row_that_is_wrong(self):
        self.bad(parse_book, 1, "count", "0-0\n\n")
        self.bad(parse_book, 2, "form", "0-0 1-1\n0 0\n9 9 9")
        self.bad(parse_book, 2, "tie", "0-0 1-1\n9 9 9\n0 0")
        self.bad(parse_book, 2, "form", "0-0 1-1\n")


if __name__ == "__main__":
    unittest.main()
