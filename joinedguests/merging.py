"""Two companies put into one."""

from joinedguests.company import MOST_GUESTS, Company
from joinedguests.errors import BadCrossing, CannotMerge, NoGuest, NotLet
from joinedguests.newcomers import bars_among, fine_ties, has_like_ends
from joinedguests.ties import check_backs, is_same, is_sequence
from joinedguests.verdict import Clash


class Merged:
    """A company that holds two others, and who was made one with whom."""

    def __init__(self, company, made_one):
        self.company = company
        self.made_one = made_one

    def __eq__(self, other):
        if not isinstance(other, Merged):
            return False
        return self.company == other.company and is_same(self.made_one, other.made_one)

    @property
    def dropped(self):
        """The labels of the guests that were dropped."""
        return tuple([label for label, _ in self.made_one])

    def host_of(self, label):
        """Return the label of the guest that stands for a guest of either company."""
        for dropped, kept in self.made_one:
            if is_same(dropped, label):
                return kept
        if label not in self.company:
            raise NoGuest(label)
        return label


class Stuck:
    """Two companies that could not be merged: x and y clash."""

    def __init__(self, x, y, clash):
        self.x = x
        self.y = y
        self.clash = clash

    def __eq__(self, other):
        if not isinstance(other, Stuck):
            return False
        return is_same((self.x, self.y, self.clash), (other.x, other.y, other.clash))


def common_guests(one, other):
    """Return the labels of the common guests, ascending."""
    check_backs(one.ties, other.ties)
    return tuple([label for label in one if label in other])


def outsiders_of(one, other):
    """Return the labels of the guests of one that are no guests of other, ascending."""
    check_backs(one.ties, other.ties)
    return tuple([label for label in one if label not in other])


def first_difference(one, other):
    """Return the first common guests (x, y) with unlike ties, or None."""
    common = common_guests(one, other)
    for index, x in enumerate(common):
        for y in common[index + 1:]:
            if one.tie_of(x, y) != other.tie_of(x, y):
                return (x, y)
    return None


def crossing_of(one, other, company):
    """Return the ties from the outsiders of one to those of other in a company."""
    check_backs(one.ties, company.ties)
    firsts = outsiders_of(one, other)
    seconds = outsiders_of(other, one)
    for label in firsts + seconds:
        if label not in company:
            raise NoGuest(label)
    return tuple([company.tie_of(x, y) for y in seconds for x in firsts])


def with_crossing(one, other, crossing):
    """Return the company of all guests of both with this crossing."""
    _check_agree(one, other)
    firsts = outsiders_of(one, other)
    seconds = outsiders_of(other, one)
    if not is_sequence(crossing) or len(crossing) != len(firsts) * len(seconds):
        raise BadCrossing(0, "length")
    for index, tie in enumerate(crossing):
        if not one.ties.has(tie):
            raise BadCrossing(index, "tie")
    web = _web_of(one)
    for column, y in enumerate(seconds):
        known = {label: other.tie_of(label, y) for label in other if label in web}
        for line, x in enumerate(firsts):
            known[x] = crossing[column * len(firsts) + line]
        _come_in(one.ties, web, y, known)
    return _company_of(one.ties, web)


def merge(book, one, other):
    """Return both companies put into one as Merged, or Stuck."""
    check_mergeable(book, one, other)
    web = _web_of(one)
    hosts = {label: label for label in common_guests(one, other)}
    free = outsiders_of(one, other)
    made_one = []
    for y in outsiders_of(other, one):
        known = {hosts[label]: other.tie_of(label, y) for label in hosts}
        x = _tie_up(book, web, free, known)
        if x is None:
            _come_in(book.ties, web, y, known)
            hosts[y] = y
        elif all([has_like_ends(book, (web[x][label], known[label])) for label in known]):
            hosts[y] = x
            made_one.append((y, x))
            free = [label for label in free if label != x]
        else:
            return Stuck(x, y, _clash_of(book, web, x, known))
    return Merged(_company_of(book.ties, web), tuple(made_one))


def merge_fault(book, one, other, company, made_one):
    """Return None for a right merging of two companies, else the first word that applies."""
    check_mergeable(book, one, other)
    if not _is_made_one(one, other, made_one):
        return "made"
    hosts = {label: label for label in list(one) + list(other)}
    for dropped, kept in made_one:
        hosts[dropped] = kept
    if company.ties != book.ties or company.guests != tuple(sorted(set(list(hosts.values())))):
        return "guests"
    if not _holds(company, one, hosts):
        return "one"
    if not _holds(company, other, hosts):
        return "other"
    if not book.lets(company):
        return "barred"
    return None


def check_mergeable(book, one, other):
    """Raise an error if a book can not merge these two companies."""
    check_backs(book.ties, one.ties)
    check_backs(book.ties, other.ties)
    if not book.lets(one):
        raise NotLet("one")
    if not book.lets(other):
        raise NotLet("other")
    _check_agree(one, other)


def _check_agree(one, other):
    labels = first_difference(one, other)
    if labels is not None:
        raise CannotMerge("differ", labels)
    if len(one) + len(outsiders_of(other, one)) > MOST_GUESTS:
        raise CannotMerge("many", ())


def _web_of(company):
    """Return for each guest a dict of its ties to all others."""
    web = {}
    for x in company:
        web[x] = {y: company.tie_of(x, y) for y in company if y != x}
    return web


def _company_of(ties, web):
    labels = sorted(web)
    return Company(ties, labels, [[web[x][y] for y in labels if y < x] for x in labels])


def _come_in(ties, web, y, known):
    """Put guest y into the web; known has the ties of all guests to y."""
    for label in known:
        web[label][y] = known[label]
    web[y] = {label: ties.back(known[label]) for label in known}


def _tie_up(book, web, free, known):
    """Add to known the least fine tie of each free guest; return the first that has none."""
    for x in free:
        fine = fine_ties(book, [(web[x][label], known[label]) for label in known])
        if fine == ():
            return x
        known[x] = fine[0]
    return None


def _clash_of(book, web, x, known):
    """Return the clash of guest x and the newcomer to whom these ties are known."""
    labels = sorted(known)
    couples = {label: (web[x][label], known[label]) for label in labels}
    witnesses = bars_among(book, labels, [couples[label] for label in labels])
    seated = {label: True for label in witnesses}
    if all([has_like_ends(book, couples[label]) for label in seated]):
        unlike = [label for label in labels if not has_like_ends(book, couples[label])]
        seated[unlike[0]] = True
    part = _company_of(book.ties, {label: web[label] for label in seated})
    one = tuple([couples[label][0] for label in part])
    other = tuple([book.ties.back(couples[label][1]) for label in part])
    return Clash(part, one, other, witnesses)


def _is_made_one(one, other, made_one):
    """Return whether made_one pairs outsiders of other with outsiders of one, each once."""
    if not is_sequence(made_one):
        return False
    last = -1
    taken = {}
    for pair in made_one:
        if not is_sequence(pair) or len(pair) != 2:
            return False
        dropped, kept = pair
        if dropped not in other or dropped in one or kept not in one or kept in other:
            return False
        if dropped <= last or kept in taken:
            return False
        last = dropped
        taken[kept] = True
    return True


def _holds(company, part, hosts):
    """Return whether the hosts of any two guests of part have their tie."""
    for index, x in enumerate(part.guests):
        for y in part.guests[:index]:
            if company.tie_of(hosts[x], hosts[y]) != part.tie_of(x, y):
                return False
    return True
