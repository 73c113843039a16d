"""Questions in other shapes."""

from joinedguests.errors import BadNaming, NoPrefix, OtherTie
from joinedguests.questions import (
    LETTERS, MOST_DEPTH, MOST_FREE, And, AtLeast, Everybody, Not, Or, Same, Somebody, TieIs, is_name,
)
from joinedguests.ties import is_sequence


def parts_of(question):
    """Return the questions that a question is made of, in order."""
    if isinstance(question, (TieIs, Same)):
        return ()
    if isinstance(question, (And, Or)):
        return (question.one, question.other)
    return (question.body,)


def is_binder(question):
    """Return whether a question binds a name."""
    return isinstance(question, (Somebody, Everybody, AtLeast))


def subquestions(question):
    """Yield the subquestions of a question, itself first."""
    waiting = [question]
    while waiting:
        part = waiting.pop()
        yield part
        waiting.extend(parts_of(part)[::-1])


def has_at_least(question):
    """Return whether an AtLeast stands in a question."""
    return any([isinstance(part, AtLeast) for part in subquestions(question)])


def spare_names(count, taken):
    """Return the first so many names that are not taken."""
    # No question has as many names as there are with one or two letters.
    names = list(LETTERS) + [first + second for first in LETTERS for second in LETTERS]
    return tuple([name for name in names if name not in taken][:count])


def push_nots(question):
    """Return a question of the same meaning with Not over TieIs, Same and AtLeast alone."""
    return _pushed(question, True)


def opposite_of(question):
    """Return a question with such Nots that holds just where the question does not."""
    return _pushed(question, False)


def same_but_bound(one, other):
    """Return whether two questions are one but for the names of their binders."""
    waiting = [(one, other, ())]
    while waiting:
        first, second, bound = waiting.pop()
        if not _are_alike_outside(first, second, bound):
            return False
        if is_binder(first):
            bound = bound + ((first.name, second.name),)
        for part, counterpart in zip(parts_of(first), parts_of(second)):
            waiting.append((part, counterpart, bound))
    return True


def rename_question(question, pairs):
    """Return the question with new names, by pairs (old, new), in the place of free names."""
    names = _new_names(question, pairs)
    news = tuple(list(names.values()))
    spare = spare_names(len(news), question.free + question.bound + news)
    return _renamed(question, names, {}, dict(zip(news, spare)))


def split_prefix(question):
    """Return the binders in front, as pairs (word, name), and the question behind them."""
    binders = []
    body = question
    while isinstance(body, (Somebody, Everybody)):
        binders.append((body.WORD, body.name))
        body = body.body
    return (tuple(binders), body)


def is_universal(question):
    """Return whether a plain body stands behind binders "all" alone."""
    binders, body = split_prefix(question)
    return body.is_plain and all([word == "all" for word, _ in binders])


def is_existential(question):
    """Return whether a plain body stands behind binders of which no "some" follows an "all"."""
    binders, body = split_prefix(question)
    words = [word for word, _ in binders]
    # In the order of strings "all" stands ahead of "some".
    return body.is_plain and words == sorted(words, reverse=True)


def prefix_form(question):
    """Return a question of the same meaning with all its binders in front."""
    if has_at_least(question):
        raise NoPrefix("times")
    if question.binders > MOST_DEPTH:
        raise NoPrefix("deep")
    if len(question.free) + question.binders > MOST_FREE:
        raise NoPrefix("wide")
    prefix, found = _pulled(question, {}, spare_names(question.binders, question.free))
    for word, name in prefix[::-1]:
        found = Somebody(name, found) if word == "some" else Everybody(name, found)
    return found


def spread_ties(question, groups):
    """Return the question with the ties of a group in the place of each tie."""
    for part in subquestions(question):
        if isinstance(part, TieIs) and part.tie >= len(groups):
            raise OtherTie(part.tie)
    return _spread(question, groups)


def _made_of(question, name, parts):
    """Return a question of the same class, made of these parts; a binder binds this name."""
    if isinstance(question, Not):
        return Not(parts[0])
    if isinstance(question, And):
        return And(parts[0], parts[1])
    if isinstance(question, Or):
        return Or(parts[0], parts[1])
    if isinstance(question, Somebody):
        return Somebody(name, parts[0])
    if isinstance(question, Everybody):
        return Everybody(name, parts[0])
    return AtLeast(question.times, name, parts[0])


def _pushed(question, holds):
    """Return the question, or its opposite if holds is False, with its Nots pushed in."""
    if isinstance(question, (TieIs, Same)):
        return question if holds else Not(question)
    if isinstance(question, Not):
        return _pushed(question.body, not holds)
    if isinstance(question, AtLeast):
        counted = AtLeast(question.times, question.name, _pushed(question.body, True))
        return counted if holds else Not(counted)
    if isinstance(question, (And, Or)):
        one = _pushed(question.one, holds)
        other = _pushed(question.other, holds)
        return And(one, other) if isinstance(question, And) == holds else Or(one, other)
    body = _pushed(question.body, holds)
    if isinstance(question, Somebody) == holds:
        return Somebody(question.name, body)
    return Everybody(question.name, body)


def _are_alike_outside(one, other, bound):
    """Return whether two questions are alike, whatever they are made of."""
    if one.WORD != other.WORD:
        return False
    if isinstance(one, AtLeast):
        return one.times == other.times
    if isinstance(one, TieIs) and one.tie != other.tie:
        return False
    if isinstance(one, (TieIs, Same)):
        return _is_one_name(one.x, other.x, bound) and _is_one_name(one.y, other.y, bound)
    return True


def _is_one_name(name, other, bound):
    """Return whether one binder binds both names, or none does and they are equal."""
    for first, second in bound[::-1]:
        if first == name or second == other:
            return first == name and second == other
    return name == other


def _new_names(question, pairs):
    """Return the new names of free names, or raise BadNaming."""
    names = {}
    for index, pair in enumerate(pairs):
        if not is_sequence(pair) or len(pair) != 2:
            raise BadNaming(index, "pair")
        old, new = pair
        if not is_name(old) or not is_name(new):
            raise BadNaming(index, "name")
        if old in names:
            raise BadNaming(index, "double")
        names[old] = new
    return {old: names[old] for old in question.free if old in names}


def _renamed(question, names, bound, spare):
    """Return a part of a question with new names for its free names and its catching binders.

    `bound` has the names that the binders around the part have now.
    """
    if isinstance(question, (TieIs, Same)):
        return _with_names(question, _name_now(question.x, names, bound), _name_now(question.y, names, bound))
    name = None
    if is_binder(question):
        # A binder whose name comes in among its free names would bind it.
        catches = question.name in [names[old] for old in question.free if old in names]
        name = spare[question.name] if catches else question.name
        bound = {**bound, question.name: name}
    parts = []
    for part in parts_of(question):
        parts.append(_renamed(part, names, bound, spare))
    return _made_of(question, name, parts)


def _name_now(name, names, bound):
    if name in bound:
        return bound[name]
    return names.get(name, name)


def _with_names(question, x, y):
    """Return the same TieIs or Same of other names."""
    if isinstance(question, TieIs):
        return TieIs(x, question.tie, y)
    return Same(x, y)


def _pulled(question, names, spare):
    """Return the binders of a question, as pairs (word, name), and its body without them.

    The binders get the spare names in their order; `names` has those of the
    binders around the question.
    """
    if isinstance(question, (TieIs, Same)):
        return (), _with_names(question, names.get(question.x, question.x), names.get(question.y, question.y))
    if isinstance(question, Not):
        prefix, body = _pulled(question.body, names, spare)
        return tuple([("all" if word == "some" else "some", name) for word, name in prefix]), Not(body)
    if isinstance(question, (And, Or)):
        count = question.one.binders
        prefix, one = _pulled(question.one, names, spare[:count])
        later, other = _pulled(question.other, names, spare[count:])
        return prefix + later, _made_of(question, None, (one, other))
    prefix, body = _pulled(question.body, {**names, question.name: spare[0]}, spare[1:])
    return ((question.WORD, spare[0]),) + prefix, body


def _spread(question, groups):
    if isinstance(question, TieIs):
        found = None
        for tie in groups[question.tie]:
            told = TieIs(question.x, tie, question.y)
            found = told if found is None else Or(found, told)
        return found
    if isinstance(question, Same):
        return question
    parts = []
    for part in parts_of(question):
        parts.append(_spread(part, groups))
    return _made_of(question, question.name if is_binder(question) else None, parts)
