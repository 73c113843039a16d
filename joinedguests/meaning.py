"""What a question means in a company."""

from joinedguests.choosing import tuples_below
from joinedguests.errors import BadNaming, NoGuest, OtherTie, Unnamed
from joinedguests.questions import And, AtLeast, Everybody, Not, Or, Same, TieIs, is_name
from joinedguests.shapes import subquestions
from joinedguests.ties import is_sequence


class Walk:
    """A company in which a question is asked, and what its binders answered so far.

    A subquestion is told by its number, its place in the order of the
    subquestions; `places` has the place of the guest for each free name.
    """

    def __init__(self, company):
        self.table = company.table
        self.kept = {}

    def holds(self, question, number, places):
        """Return whether the subquestion with this number holds."""
        if isinstance(question, TieIs):
            x = places[question.x]
            y = places[question.y]
            return x != y and self.table[x][y] == question.tie
        if isinstance(question, Same):
            return places[question.x] == places[question.y]
        if isinstance(question, Not):
            return not self.holds(question.body, number + 1, places)
        if isinstance(question, And):
            if not self.holds(question.one, number + 1, places):
                return False
            return self.holds(question.other, number + 1 + question.one.size, places)
        if isinstance(question, Or):
            if self.holds(question.one, number + 1, places):
                return True
            return self.holds(question.other, number + 1 + question.one.size, places)
        # Without what is kept, binders within one another are asked the same again and again.
        key = (number, tuple([places[name] for name in question.free]))
        if key not in self.kept:
            self.kept[key] = self.binder_holds(question, number, places)
        return self.kept[key]

    def binder_holds(self, question, number, places):
        """Return whether the binder with this number holds."""
        wanted = not isinstance(question, Everybody)
        missing = question.times if isinstance(question, AtLeast) else 1
        inner = {name: places[name] for name in question.free}
        for place in range(len(self.table)):
            inner[question.name] = place
            if self.holds(question.body, number + 1, inner) == wanted:
                missing = missing - 1
                if missing == 0:
                    return wanted
        return not wanted


def labels_of(question, company, naming):
    """Return the labels of the question's free names, in the order of the names."""
    return labels_of_names(question.free, company, naming)


def told_labels(naming):
    """Return the label of each name, or raise BadNaming."""
    told = {}
    for index, pair in enumerate(naming):
        if not is_sequence(pair) or len(pair) != 2:
            raise BadNaming(index, "pair")
        name, label = pair
        if not is_name(name):
            raise BadNaming(index, "name")
        if name in told:
            raise BadNaming(index, "double")
        told[name] = label
    return told


def labels_of_names(names, company, naming):
    """Return the labels of these names, which stand in ascending order."""
    told = told_labels(naming)
    for name in names:
        if name not in told:
            raise Unnamed(name)
    for name in names:
        if told[name] not in company:
            raise NoGuest(told[name])
    return tuple([told[name] for name in names])


def check_ties(question, ties):
    """Raise OtherTie if the question tells of a tie that is none of these."""
    for part in subquestions(question):
        if isinstance(part, TieIs) and part.tie >= ties.many:
            raise OtherTie(part.tie)


def meaning_of(question, company, naming):
    """Return whether the question holds in the company."""
    labels = labels_of(question, company, naming)
    check_ties(question, company.ties)
    places = {name: company.place_of(label) for name, label in zip(question.free, labels)}
    return Walk(company).holds(question, 0, places)


def true_namings(question, company):
    """Yield the labels of the free names under which the question holds, ascending."""
    check_ties(question, company.ties)
    walk = Walk(company)
    for places in tuples_below(len(question.free), len(company)):
        if walk.holds(question, 0, dict(zip(question.free, places))):
            yield tuple([company.guests[place] for place in places])
