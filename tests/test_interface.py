"""The interface: every name in its file, with its parameters, its methods in the class itself."""

import importlib
import inspect
import unittest

FUNCTIONS = {
    "ties": ["is_whole(thing, low, high)", "is_label(thing)"],
    "likeness": ["likenesses(one, other)*", "are_alike(one, other)", "turnings_of(company)", "least_form(company)"],
    "threes": [
        "is_three(ties, thing)", "readings_of(ties, three)", "least_reading(ties, three)", "all_threes(ties)",
        "reading_classes(ties)"],
    "bookalgebra": ["is_within(one, other)", "same_up_to_names(one, other)", "least_book(book)"],
    "sizes": ["row_tie_of(book)", "free_ties(book)", "greatest_company(book)"],
    "newcomers": [
        "joinings_of(book, company, one, other)", "first_bar(book, company, one, other, tie)",
        "all_bars(book, company, one, other)"],
    "seating": ["barring_lots(book)*", "seat_couples(book, couples)", "refuse_couples(book, couples)"],
    "verdict": [
        "verdict_of(book)", "joins(book)", "joins_strictly(book)", "least_clash(book)", "all_clashes(book, n)*"],
    "clashjudge": [
        "clash_fault(book, clash)", "joins_fault(book, told)", "is_least(book, clash)", "reduce_clash(book, clash)"],
    "merging": [
        "common_guests(one, other)", "outsiders_of(one, other)", "first_difference(one, other)",
        "crossing_of(one, other, company)", "with_crossing(one, other, crossing)", "merge(book, one, other)",
        "merge_fault(book, one, other, company, made_one)"],
    "ways": [
        "merge_ways(book, one, other)*", "how_many_ways(book, one, other)", "way_at(book, one, other, k)",
        "way_place(book, one, other, company)"],
}

CLASSES = {
    ("ties", "Ties(backs)"): ["back(self, tie)", "one_way(self, tie)", "__eq__(self, other)"],
    ("company", "Company(ties, guests=(), rows=())"): [
        "tie_of(self, x, y)", "row_of(self, label)", "part_of(self, labels)", "without(self, label)",
        "with_row(self, label, row)", "renamed(self, pairs)", "__len__(self)", "__contains__(self, label)",
        "__iter__(self)", "__eq__(self, other)"],
    ("book", "Book(ties, barred=())"): [
        "bars(self, p, q, r)", "fitting(self, p, q)", "barring(self, t)", "company_fault(self, company)",
        "lets(self, company)", "lawful_rows(self, company)*", "row_fault(self, company, row)", "all_companies(self, n)*",
        "patterns(self, n)*", "how_many_companies(self, n)", "with_barred(self, three)",
        "without_barred(self, three)", "renamed_ties(self, pairs)", "__eq__(self, other)", "__or__(self, other)",
        "__and__(self, other)"],
    ("sizes", "Endless(tie)"): ["__eq__(self, other)"],
    ("newcomers", "Joinings(ties, same)"): ["__eq__(self, other)"],
    ("verdict", "Verdict()"): [],
    ("verdict", "Strict()"): ["__eq__(self, other)"],
    ("verdict", "Joins(company, row, witnesses)"): ["__eq__(self, other)"],
    ("verdict", "Clash(company, one, other, witnesses)"): ["__eq__(self, other)"],
    ("merging", "Merged(company, made_one)"): ["host_of(self, label)", "__eq__(self, other)"],
    ("merging", "Stuck(x, y, clash)"): ["__eq__(self, other)"],
}

CONSTANTS = [
    ("ties", "MOST_TIES", 4), ("ties", "MOST_LABEL", 10 ** 9), ("company", "MOST_GUESTS", 60),
    ("likeness", "MOST_LIKE", 7),
]


def module(name):
    return importlib.import_module("joinedguests." + name)


class TestInterface(unittest.TestCase):
    def check(self, thing, told, where):
        generator = told.endswith("*")
        name, parameters = told.rstrip("*").split("(", 1)
        self.assertTrue(inspect.isfunction(thing), told)
        self.assertEqual((thing.__name__, thing.__module__), (name, where), told)
        self.assertEqual(str(inspect.signature(thing)), "(" + parameters, told)
        self.assertEqual(inspect.isgeneratorfunction(thing), generator, told)

    def test_functions_stand_in_their_files(self):
        for name, functions in FUNCTIONS.items():
            for told in functions:
                self.check(getattr(module(name), told.split("(")[0]), told, "joinedguests." + name)

    def test_classes_stand_in_their_files(self):
        for (name, told), methods in CLASSES.items():
            cls = getattr(module(name), told.split("(")[0])
            self.assertEqual(cls.__module__, "joinedguests." + name)
            self.assertEqual(cls.__name__ + str(inspect.signature(cls)), told)
            for method in methods:
                self.check(vars(cls)[method.split("(")[0]], method, "joinedguests." + name)

    def test_static_method_and_properties(self):
        letting = vars(module("book").Book)["letting"]
        self.assertIs(type(letting), staticmethod)
        self.assertEqual(str(inspect.signature(letting.__func__)), "(ties, threes)")
        self.assertIs(type(vars(module("newcomers").Joinings)["can_join"]), property)
        self.assertIs(type(vars(module("merging").Merged)["dropped"]), property)

    def test_constants(self):
        for name, constant, number in CONSTANTS:
            self.assertEqual(getattr(module(name), constant), number)


if __name__ == "__main__":
    unittest.main()
