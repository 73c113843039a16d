"""Texts of questions."""

from joinedguests.errors import BadQuestion, BadText
from joinedguests.questions import LETTERS, And, AtLeast, Everybody, Not, Or, Same, Somebody, TieIs
from joinedguests.tietext import DIGITS, check_text, numbers_of

BRACKET = ("(",)


class Reader:
    """The text of a question, read from its beginning on; `at` is the place reached."""

    def __init__(self, text):
        self.text = text
        self.at = 0

    def take(self, signs):
        """Go on behind these signs if they stand here, and return whether they do."""
        end = self.at + len(signs)
        if self.text[self.at:end] != signs:
            return False
        self.at = end
        return True

    def need(self, signs):
        """Go on behind these signs, or raise BadText."""
        if not self.take(signs):
            raise BadText(1, "form")

    def need_end(self):
        """Raise BadText if more stands here."""
        if self.at < len(self.text):
            raise BadText(1, "form")

    def run_of(self, signs):
        """Go on behind a run of these signs and return it, or raise BadText."""
        start = self.at
        while self.at < len(self.text) and self.text[self.at] in signs:
            self.at = self.at + 1
        if self.at == start:
            raise BadText(1, "form")
        return self.text[start:self.at]

    def read_word(self):
        """Go on behind a word and return it, or raise BadText."""
        return self.run_of(LETTERS)

    def read_number(self):
        """Go on behind a number and return it, or raise BadText."""
        numbers = numbers_of([self.run_of(DIGITS)])
        if numbers is None:
            raise BadText(1, "form")
        return numbers[0]


def question_text(question):
    """Return the text of a question."""
    return str(question)


def parse_question(text):
    """Return the question of a text."""
    check_text(text)
    # The form of the whole text comes first, so nothing is made before all is read.
    steps = _steps_of(Reader(text))
    try:
        return _question_of(steps)
    except BadQuestion:
        raise BadText(1, "question")


def _steps_of(reader):
    """Return the steps that make the question of a text, each behind those of its parts."""
    steps = []
    # What is begun waits for the question that it is about; a recursion could go too deep.
    waiting = []
    while True:
        step = _beginning(reader)
        if step[0] in ("tie", "same"):
            steps.append(step)
            if _is_end(reader, waiting, steps):
                return steps
        else:
            waiting.append(step)


def _beginning(reader):
    """Return the step that begins here: a whole one about two names, or one that waits."""
    if reader.take("("):
        return BRACKET
    word = reader.read_word()
    if reader.take("="):
        return ("same", word, reader.read_word())
    if reader.take("-"):
        tie = reader.read_number()
        reader.need("-")
        return ("tie", word, tie, reader.read_word())
    reader.need(" ")
    if word == "not":
        return ("not",)
    if word not in ("some", "all", "least"):
        raise BadText(1, "form")
    times = None
    if word == "least":
        times = reader.read_number()
        reader.need(" ")
    name = reader.read_word()
    reader.need(" ")
    return (word, times, name)


def _is_end(reader, waiting, steps):
    """Finish what waited for the question just read; return whether the text ends with it."""
    while len(waiting) > 0:
        step = waiting.pop()
        if step == BRACKET:
            joint = "and" if reader.take(" and ") else "or"
            if joint == "or":
                reader.need(" or ")
            waiting.append((joint,))
            return False
        if step[0] in ("and", "or"):
            reader.need(")")
        steps.append(step)
    reader.need_end()
    return True


def _question_of(steps):
    """Return the question that these steps make, or raise BadQuestion."""
    made = []
    for step in steps:
        question = _made_by(step, made)
        made.append(question)
    return made[0]


def _made_by(step, made):
    """Return the question of a step; what it is made of is taken from the end of `made`."""
    if step[0] == "tie":
        return TieIs(step[1], step[2], step[3])
    if step[0] == "same":
        return Same(step[1], step[2])
    body = made.pop()
    if step[0] == "not":
        return Not(body)
    if step[0] == "and":
        return And(made.pop(), body)
    if step[0] == "or":
        return Or(made.pop(), body)
    if step[0] == "some":
        return Somebody(step[2], body)
    if step[0] == "all":
        return Everybody(step[2], body)
    return AtLeast(step[1], step[2], body)
