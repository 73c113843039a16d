"""Many companies put into one."""

from joinedguests.company import MOST_GUESTS, Company
from joinedguests.errors import CannotHost, NotStrict
from joinedguests.merging import merge
from joinedguests.verdict import joins_strictly


def merge_all(book, companies):
    """Return one company that holds all companies, which share one lot of guests."""
    if not joins_strictly(book):
        raise NotStrict()
    if len(companies) == 0:
        raise CannotHost(0, "count", ())
    core = [label for label in companies[0] if all([label in other for other in companies])]
    together = {}
    for index, company in enumerate(companies):
        _check_comer(book, companies[0], company, index, core, together)
        for label in company:
            together[label] = True
    whole = Company(book.ties)
    for company in companies:
        whole = merge(book, whole, company).company
    return whole


def _check_comer(book, first, company, index, core, together):
    """Raise an error if a company can not come to those ahead, who have these labels."""
    # Other backs than the book's are refused by company_fault.
    barred = book.company_fault(company)
    if barred is not None:
        raise CannotHost(index, "barred", barred)
    couple = _first_unlike(first, company, core)
    if couple is not None:
        raise CannotHost(index, "differ", couple)
    shared = [label for label in company if label in together and label not in core]
    if len(shared) > 0:
        raise CannotHost(index, "shared", (shared[0],))
    if len(together) + len([label for label in company if label not in together]) > MOST_GUESTS:
        raise CannotHost(index, "many", ())


def _first_unlike(first, company, core):
    """Return the first couple of the core whose tie differs in two companies, or None."""
    for place, x in enumerate(core):
        for y in core[place + 1:]:
            if first.tie_of(x, y) != company.tie_of(x, y):
                return (x, y)
    return None
