"""Texts of ties and of companies."""

from joinedguests.company import MOST_GUESTS, Company
from joinedguests.errors import BadText
from joinedguests.ties import MOST_LABEL, Ties, ties_fault

DIGITS = "0123456789"
MOST_DIGITS = 10


def ties_text(ties):
    """Return the text of ties."""
    return " ".join([f"{tie}-{back}" for tie, back in enumerate(ties.backs)])


def parse_ties(text):
    """Return the ties of a text."""
    rows = rows_of_text(text)
    if len(rows) > 1:
        raise BadText(1, "form")
    return ties_of_row(rows[0])


def company_text(company):
    """Return the text of a company."""
    rows = [ties_text(company.ties)]
    for label, row in zip(company.guests, company.rows):
        rows.append(f"{label}:" + "".join([f" {tie}" for tie in row]))
    return "\n".join(rows)


def parse_company(text):
    """Return the company of a text."""
    texts = rows_of_text(text)
    ties = ties_of_row(texts[0])
    labels = []
    rows = []
    for at in range(1, len(texts)):
        label, row = _guest_of_row(ties, labels, at + 1, texts[at])
        labels.append(label)
        rows.append(row)
    return Company(ties, labels, rows)


def check_text(text):
    """Raise BadText if this is no string."""
    if not isinstance(text, str):
        raise BadText(1, "text")


def rows_of_text(text):
    """Return the rows of a text."""
    check_text(text)
    return text.split("\n")


def ties_of_row(row):
    """Return the ties of the first row of a text."""
    pairs = []
    for word in row.split(" "):
        pair = numbers_of(word.split("-"))
        if pair is None or len(pair) != 2:
            raise BadText(1, "form")
        pairs.append(pair)
    for place, (tie, _) in enumerate(pairs):
        if tie != place:
            raise BadText(1, "order")
    backs = [back for _, back in pairs]
    what = ties_fault(backs)
    if what is not None:
        raise BadText(1, what)
    return Ties(backs)


def numbers_of(words):
    """Return the numbers that words tell, or None if one of them tells none."""
    if not all([_is_number(word) for word in words]):
        return None
    return [int(word) for word in words]


def _is_number(word):
    if not 1 <= len(word) <= MOST_DIGITS:
        return False
    if not all([sign in DIGITS for sign in word]):
        return False
    return word == "0" or word[0] != "0"


def _guest_of_row(ties, labels, number, text):
    """Return the label and the row of a guest; the guests ahead have these labels."""
    if number > MOST_GUESTS + 1:
        raise BadText(number, "many")
    label, row = _label_and_row(number, text)
    if label > MOST_LABEL:
        raise BadText(number, "label")
    if len(labels) > 0 and label <= labels[-1]:
        raise BadText(number, "order")
    if len(row) != len(labels):
        raise BadText(number, "length")
    if not all([ties.has(tie) for tie in row]):
        raise BadText(number, "tie")
    return (label, row)


def _label_and_row(number, text):
    """Return the numbers ahead of the colon and behind it."""
    head, colon, rest = text.partition(":")
    label = numbers_of([head])
    # What stands behind the colon begins with a blank, so the first word is empty.
    words = rest.split(" ")
    row = numbers_of(words[1:])
    if colon == "" or label is None or words[0] != "" or row is None:
        raise BadText(number, "form")
    return (label[0], row)
