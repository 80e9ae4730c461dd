"""Signs, and terms over them."""

from shutbyrings.errors import BadCount, BadSign, BadTerm, NoList, NoSign
from shutbyrings.kinds import CAPITAL, SMALL, is_tuple_of, is_whole, is_word
from shutbyrings.numbered import Numbered, arguments, folded

MOST_SIGNS = 5
MOST_ARGUMENTS = 3


class Signs:
    """Names of signs, in the order in which they were told, with their arities."""

    def __init__(self, pairs):
        if not isinstance(pairs, list):
            raise NoList()
        if not 1 <= len(pairs) <= MOST_SIGNS:
            raise BadCount()
        self._arities = {}
        for number, pair in enumerate(pairs):
            if not _is_sign(pair) or pair[0] in self._arities:
                raise BadSign(number)
            self._arities[pair[0]] = pair[1]

    @property
    def names(self):
        return list(self._arities)

    @property
    def ways(self):
        return sorted([name for name in self._arities if self._arities[name] > 1])

    def arity(self, name):
        if name not in self:
            raise NoSign(name)
        return self._arities[name]

    def __contains__(self, name):
        return isinstance(name, str) and name in self._arities

    def __len__(self):
        return len(self._arities)

    def __eq__(self, other):
        return isinstance(other, Signs) and list(self._arities.items()) == list(other._arities.items())


def _is_sign(value):
    if not is_tuple_of(value, 2) or not is_word(value[0], SMALL):
        return False
    return is_whole(value[1]) and 0 <= value[1] <= MOST_ARGUMENTS


def is_term(signs, value):
    """Whether a value is a term over the signs."""
    todo = [value]
    while todo:
        part = todo.pop()
        if isinstance(part, tuple):
            if not _has_head(signs, part):
                return False
            todo.extend(part[1:])
        elif not is_word(part, CAPITAL):
            return False
    return True


def _has_head(signs, value):
    return len(value) > 0 and value[0] in signs and len(value) == signs.arity(value[0]) + 1


def look_at_terms(signs, s, t):
    """Raise BadTerm with the first of s and t that is no term over the signs."""
    for value in (s, t):
        if not is_term(signs, value):
            raise BadTerm(value)


def parts(term):
    """The parts of a term, each once: the term, then those of its arguments, where they are met first."""
    store = Numbered()
    return [store.terms[number] for number in store.parts_of(store.take(term))]


def variables(term):
    """The ascending list of the variables of a term."""
    return sorted({part for part in _with_doubles(term) if isinstance(part, str)})


def size(term):
    """How many signs and variables a term has, each as often as it stands there."""
    return len(_with_doubles(term))


def _with_doubles(term):
    met = []
    todo = [term]
    while todo:
        part = todo.pop()
        met.append(part)
        todo.extend(arguments(part))
    return met


def spelled(term):
    """The list of the signs and variables of a term, in an order that tells it from all others."""
    return [part if isinstance(part, str) else part[0] for part in _with_doubles(term)]


def put(term, given):
    """The term with the terms of a dict in the place of their variables."""
    return folded(term, arguments, lambda part, told: _put_whole(part, told, given))


def _put_whole(part, told, given):
    if isinstance(part, str):
        return given.get(part, part)
    return (part[0], *told)
