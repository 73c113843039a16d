"""The interface: every name in its file, with its parameters, its methods in the class itself."""

import importlib
import inspect
import re
import unittest
from pathlib import Path

FUNCTIONS = {
    "ties": ["is_whole(thing, low, high)", "is_label(thing)"],
    "likeness": ["likenesses(one, other)*", "are_alike(one, other)", "turnings_of(company)", "least_form(company)"],
    "threes": [
        "is_three(ties, thing)", "readings_of(ties, three)", "least_reading(ties, three)", "all_threes(ties)",
        "reading_classes(ties)"],
    "bookalgebra": ["is_within(one, other)", "same_up_to_names(one, other)", "least_book(book)"],
    "sizes": ["row_tie_of(book)", "free_ties(book)", "greatest_company(book)"],
    "newcomers": [
        "joinings_of(book, company, one, other)", "first_bar(book, company, one, other, tie)",
        "all_bars(book, company, one, other)"],
    "seating": ["barring_lots(book)*", "seat_couples(book, couples)", "refuse_couples(book, couples)"],
    "verdict": [
        "verdict_of(book)", "joins(book)", "joins_strictly(book)", "least_clash(book)", "all_clashes(book, n)*"],
    "clashjudge": [
        "clash_fault(book, clash)", "joins_fault(book, told)", "is_least(book, clash)", "reduce_clash(book, clash)"],
    "merging": [
        "common_guests(one, other)", "outsiders_of(one, other)", "first_difference(one, other)",
        "crossing_of(one, other, company)", "with_crossing(one, other, crossing)", "merge(book, one, other)",
        "merge_fault(book, one, other, company, made_one)"],
    "ways": [
        "merge_ways(book, one, other)*", "how_many_ways(book, one, other)", "way_at(book, one, other, k)",
        "way_place(book, one, other, company)"],
    "hosts": ["merge_all(book, companies)"],
    "counts": ["how_many(book, company, row)", "fixed_rows(book, company)", "count_fault(book, company, row, found)"],
    "questions": ["is_name(thing)"],
    "shapes": [
        "subquestions(question)*", "push_nots(question)", "opposite_of(question)", "same_but_bound(one, other)",
        "rename_question(question, pairs)", "split_prefix(question)", "is_universal(question)",
        "is_existential(question)", "prefix_form(question)", "spread_ties(question, groups)"],
    "meaning": [
        "labels_of(question, company, naming)", "check_ties(question, ties)", "meaning_of(question, company, naming)",
        "true_namings(question, company)*"],
    "answers": [
        "answer_of(book, question, company, naming)", "yes_rows(book, question, company, naming, name)",
        "count_yes(book, question, company, naming, name)"],
    "changes": ["apply_changes(book, changes)"],
    "tietext": ["ties_text(ties)", "parse_ties(text)", "company_text(company)", "parse_company(text)"],
    "booktext": ["book_text(book)", "parse_book(text)"],
    "everywhere": [
        "holds_everywhere(book, question)", "holds_somewhere(book, question)", "three_question(p, q, r)",
        "book_questions(book)"],
    "sketches": ["first_barred_known(sketch)"],
    "fullness": [
        "first_lack(book, company, r)", "thick_lack(book, company, r, m)", "is_full(book, company, r)"],
    "widening": ["asking_fault(book, company, guests, row)", "widened_row(book, company, guests, row, but)"],
    "hall": ["tried(hall, askings)"],
    "growing": ["grow(book, rounds, size)", "finish(book)"],
    "leading": [
        "seat_company(hall, company)", "lead_on(one, other, pairs, guest)", "lead_back(one, other, pairs, guest)",
        "lead_all(one, other, pairs=())", "zigzag(one, other, turns)"],
    "mends": [
        "good_lots(book, pool, kind, sitting=())", "least_mends(book, pool, kind, sitting=())",
        "spoilers(book, pool, kind, sitting=())", "mends_fault(book, pool, kind, sitting, mends)"],
    "pairs": [
        "book_beside(one, other)", "first_of(one, other, company)", "second_of(one, other, company)",
        "put_beside(one, other, first, second)", "beside_verdict(one, other)"],
    "papers": [
        "paper_of(book, question, company, naming)", "paper_fault(book, question, company, naming, paper)"],
    "parting": ["parting_question(one, one_naming, other, other_naming, depth)"],
    "peeling": [
        "peel(sketch)", "fill_by_peeling(sketch)", "clumps_book()", "unfillable(labels, couples)", "ring_sketch(n)"],
    "questiontext": ["question_text(question)", "parse_question(text)"],
    "seen": [
        "seen_company(seeing, company)", "seen_book(seeing, book)", "unseen_book(seeing, book)",
        "lifted_companies(seeing, book, company)*", "led_question(seeing, question)"],
    "situations": [
        "all_situations(book, names)*", "yes_of(book, question)", "plain_form(book, question)",
        "same_answers(book, one, other)", "follows(book, one, other)"],
    "wheels": ["all_wheels(book, n)*", "least_wheel(book, r, most)", "climb_tie(book)"],
    "within": [
        "book_within(outer, inner)", "lots_of(outer, inner, company)",
        "put_within(outer, inner, outer_company, inner_companies)", "within_verdict(outer, inner)"],
}

CLASSES = {
    ("ties", "Ties(backs)"): ["back(self, tie)", "one_way(self, tie)", "__eq__(self, other)"],
    ("company", "Company(ties, guests=(), rows=())"): [
        "tie_of(self, x, y)", "row_of(self, label)", "part_of(self, labels)", "without(self, label)",
        "with_row(self, label, row)", "renamed(self, pairs)", "__len__(self)", "__contains__(self, label)",
        "__iter__(self)", "__eq__(self, other)"],
    ("book", "Book(ties, barred=())"): [
        "bars(self, p, q, r)", "fitting(self, p, q)", "barring(self, t)", "company_fault(self, company)",
        "lets(self, company)", "lawful_rows(self, company)*", "row_fault(self, company, row)", "all_companies(self, n)*",
        "patterns(self, n)*", "how_many_companies(self, n)", "with_barred(self, three)",
        "without_barred(self, three)", "renamed_ties(self, pairs)", "__eq__(self, other)", "__or__(self, other)",
        "__and__(self, other)"],
    ("sizes", "Endless(tie)"): ["__eq__(self, other)"],
    ("newcomers", "Joinings(ties, same)"): ["__eq__(self, other)"],
    ("verdict", "Verdict()"): [],
    ("verdict", "Strict()"): ["__eq__(self, other)"],
    ("verdict", "Joins(company, row, witnesses)"): ["__eq__(self, other)"],
    ("verdict", "Clash(company, one, other, witnesses)"): ["__eq__(self, other)"],
    ("merging", "Merged(company, made_one)"): ["host_of(self, label)", "__eq__(self, other)"],
    ("merging", "Stuck(x, y, clash)"): ["__eq__(self, other)"],
    ("counts", "Most(number, company)"): ["__eq__(self, other)"],
    ("questions", "Question()"): ["__invert__(self)", "__and__(self, other)", "__or__(self, other)"],
    ("questions", "TieIs(x, tie, y)"): ["__eq__(self, other)", "__str__(self)"],
    ("questions", "Same(x, y)"): ["__eq__(self, other)", "__str__(self)"],
    ("questions", "Not(body)"): ["__eq__(self, other)", "__str__(self)"],
    ("questions", "And(one, other)"): ["__eq__(self, other)", "__str__(self)"],
    ("questions", "Or(one, other)"): ["__eq__(self, other)", "__str__(self)"],
    ("questions", "Somebody(name, body)"): ["__eq__(self, other)", "__str__(self)"],
    ("questions", "Everybody(name, body)"): ["__eq__(self, other)", "__str__(self)"],
    ("questions", "AtLeast(times, name, body)"): ["__eq__(self, other)", "__str__(self)"],
    ("bench", "Bench(book)"): [
        "make(self, change)", "take_back(self, number)", "verdict_now(self)", "trial(self)", "tried(self, call)",
        "__len__(self)", "__iter__(self)"],
    ("sketches", "Sketch(book, labels, known=())"): [
        "tie_of(self, x, y)", "with_known(self, x, y, tie)", "only(self, rows)", "filling_fault(self, company)",
        "all_fillings(self)*", "how_many_fillings(self)", "possible_ties(self, x, y)", "sure_rows(self)",
        "two_fillings(self, x, y)", "failing_lots(self)", "__eq__(self, other)"],
    ("facts", "Facts(book, labels)"): [
        "hear(self, x, y, tie)", "forget(self, x, y)", "put_right(self, x, y, tie)", "trial(self)",
        "tried(self, call)", "__len__(self)", "__iter__(self)"],
    ("fullness", "Lack(guests, row, times)"): ["__eq__(self, other)"],
    ("hall", "Hall(book)"): [
        "meet(self, guests, row)", "who_meet(self, guests, row)", "another(self, guests, row, but)",
        "came_for(self, label)", "trial(self)", "__len__(self)", "__contains__(self, label)", "__iter__(self)"],
    ("mends", "Mend(lot, book, verdict)"): [],
    ("peeling", "Order(labels)"): ["__eq__(self, other)"],
    ("peeling", "Ring(labels)"): ["__eq__(self, other)"],
    ("seen", "Seeing(ties, onto)"): ["ties_seen_as(self, tie)", "__eq__(self, other)"],
    ("wheels", "Wheel(ties, steps)"): ["spread(self, k)", "__len__(self)", "__eq__(self, other)"],
    ("within", "Lots(lots, outer, inners)"): [],
}

CONSTANTS = [
    ("ties", "MOST_TIES", 4), ("ties", "MOST_LABEL", 10 ** 9), ("company", "MOST_GUESTS", 60),
    ("likeness", "MOST_LIKE", 7),
]


def module(name):
    return importlib.import_module("joinedguests." + name)


def listed():
    """The modules of the interface in DOC.md, each with the names that are listed under its heading."""
    text = (Path(__file__).resolve().parent.parent.parent / "shared" / "DOC.md").read_text(encoding="utf-8")
    found = {}
    for part in re.split(r"\n## joinedguests/", text)[1:]:
        head, _, body = part.partition(".py")
        names = re.findall(r"`?\b([A-Za-z_]+)\(", body.split("\n", 1)[1])
        found[head] = {name for name in names if not name.startswith("__")}
    return found


class TestInterface(unittest.TestCase):
    @unittest.skipUnless((Path(__file__).resolve().parent.parent.parent / "shared" / "DOC.md").exists(), "no DOC.md")
    def test_all_that_the_document_lists_is_looked_at(self):
        for name, names in listed().items():
            told = {function.split("(")[0] for function in FUNCTIONS.get(name, [])}
            for (where, cls), methods in CLASSES.items():
                if where == name:
                    told |= {cls.split("(")[0], *(method.split("(")[0] for method in methods)}
            errors = {part for part in names if hasattr(module("errors"), part)}
            self.assertEqual(names - told - errors - {"letting"}, set(), name)

    def check(self, thing, told, where):
        generator = told.endswith("*")
        name, parameters = told.rstrip("*").split("(", 1)
        self.assertTrue(inspect.isfunction(thing), told)
        self.assertEqual((thing.__name__, thing.__module__), (name, where), told)
        self.assertEqual(str(inspect.signature(thing)), "(" + parameters, told)
        self.assertEqual(inspect.isgeneratorfunction(thing), generator, told)

    def test_functions_stand_in_their_files(self):
        for name, functions in FUNCTIONS.items():
            for told in functions:
                self.check(getattr(module(name), told.split("(")[0]), told, "joinedguests." + name)

    def test_classes_stand_in_their_files(self):
        for (name, told), methods in CLASSES.items():
            cls = getattr(module(name), told.split("(")[0])
            self.assertEqual(cls.__module__, "joinedguests." + name)
            self.assertEqual(cls.__name__ + str(inspect.signature(cls)), told)
            for method in methods:
                self.check(vars(cls)[method.split("(")[0]], method, "joinedguests." + name)

    def test_static_method_and_properties(self):
        letting = vars(module("book").Book)["letting"]
        self.assertIs(type(letting), staticmethod)
        self.assertEqual(str(inspect.signature(letting.__func__)), "(ties, threes)")
        self.assertIs(type(vars(module("newcomers").Joinings)["can_join"]), property)
        self.assertIs(type(vars(module("merging").Merged)["dropped"]), property)
        for name in ("web", "unknown"):
            self.assertIs(type(vars(module("sketches").Sketch)[name]), property)
        for name in ("rows", "sketch", "log"):
            self.assertIs(type(vars(module("facts").Facts)[name]), property)

    def test_attributes_are_set_when_an_object_is_made(self):
        ties = module("ties").Ties((0, 1))
        book = module("book").Book(ties)
        for thing, names in [
            (module("hall").Hall(book), "book company"), (module("seen").Seeing(ties, (0, 1)), "ties onto seen_ties"),
            (module("wheels").Wheel(ties, (0,)), "ties steps company"), (module("mends").Mend(1, 2, 3), "lot book verdict"),
            (module("within").Lots(1, 2, 3), "lots outer inners"), (module("peeling").Order(1), "labels"),
            (module("peeling").Ring(1), "labels"), (module("bench").Bench(book), "start book standing log"),
        ]:
            for name in names.split():
                self.assertTrue(hasattr(thing, name), name)

    def test_questions_are_under_question(self):
        questions = module("questions")
        for name, told in CLASSES:
            if name == "questions" and told != "Question()":
                self.assertEqual(getattr(questions, told.split("(")[0]).__bases__, (questions.Question,))

    def test_constants(self):
        for name, constant, number in CONSTANTS:
            self.assertEqual(getattr(module(name), constant), number)


if __name__ == "__main__":
    unittest.main()
