"""[0.7], [0.9]: every error with its attributes, in their order."""

import inspect
import unittest

from joinedguests import errors

ERRORS = """
BadTies(what) NoTie(tie) BadCompany(index,what) NoGuest(label) Alike(label) BadRenaming(what)
TooMany(count) BadText(row,what) NoThree(three) BadBook(index,what) OtherTies() TooWide() NotLet(what)
NoHall(clash) BadCouple(index) BadClash(what) CannotMerge(what,labels) BadCrossing(index,what)
NoWay(number) NotStrict() CannotHost(index,what,labels) BadRow(what) Full(lot) HallBound() OtherBook()
BadPairs(what) BadGrowth(what) BadQuestion(what) BadNaming(index,what) Unnamed(name) OtherTie(tie)
NoPrefix(what) BadDepth(depth) BadName(name) BadNames(index,what) Sentence() NoPaper()
BadFullness(what) BadWheel(index,what) BadSpread(k) BadSketch(index,what) NoFilling() NoOrder(labels)
KnownBarred(labels) BadRing(count) BadFact(what) NotTrue(rows) NoRows(which) UnlikeGuests()
BadLots(index,what) BadSeeing(index,what) NotSuch(what) BadChange(index,what) BadKind(kind)
NoNumber(number) Rests(number)
""".split()


def told():
    for entry in ERRORS:
        name, names = entry[:-1].split("(")
        yield name, [part for part in names.split(",") if part]


class TestErrors(unittest.TestCase):
    def test_guest_error_is_directly_under_value_error(self):
        self.assertEqual(errors.GuestError.__bases__, (ValueError,))

    def test_every_other_error_is_directly_under_guest_error(self):
        for name, _ in told():
            self.assertEqual(getattr(errors, name).__bases__, (errors.GuestError,), name)

    def test_there_are_no_other_classes(self):
        there = {name for name, thing in vars(errors).items() if inspect.isclass(thing)}
        self.assertEqual(there, {name for name, _ in told()} | {"GuestError"})

    def test_attributes_in_order_hold_the_very_things_passed(self):
        for name, names in told():
            things = [[part] for part in names]
            error = getattr(errors, name)(*things)
            self.assertEqual(list(vars(error)), names, name)
            for part, thing in zip(names, things):
                self.assertIs(getattr(error, part), thing, name)

    def test_each_can_be_raised_and_caught_as_guest_error(self):
        for name, names in told():
            with self.assertRaises(errors.GuestError):
                raise getattr(errors, name)(*names)


if __name__ == "__main__":
    unittest.main()
