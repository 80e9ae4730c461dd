"""Steps by the rules of a book, among terms by numbers.

Falls may put a term into another one twice at each step. By numbers each part is
followed once, however often it stands in a term.
"""

from shutbyrings.kinds import is_number, is_whole
from shutbyrings.numbered import Numbered, arguments, folded
from shutbyrings.terms import variables


def matching(store, left, number, known):
    """The numbers of terms for variables, known ones and those of left, by which left becomes a term, or None."""
    found = dict(known)
    todo = [(left, number)]
    while todo:
        part, n = todo.pop()
        if isinstance(part, str):
            if found.setdefault(part, n) != n:
                return None
        elif part[0] != store.heads[n] or len(part) != len(store.places[n]) + 1:
            return None
        else:
            todo.extend(list(zip(part[1:], store.places[n])))
    return found


def _is_used(rule):
    """Whether steps are made by a rule: others would fit everywhere, or put in what nobody tells."""
    left, right = rule
    known = variables(left)
    return not isinstance(left, str) and all([name in known for name in variables(right)])


class Moves:
    """The steps by the rules of a book that are used."""

    def __init__(self, book):
        self.store = Numbered()
        self._rules = {k: rule for k, rule in enumerate(book.rules) if _is_used(rule)}
        self._whole = {}
        self._ways = {}

    def whole_steps(self, number):
        """The list of (number of a rule, new term) of the steps that put another term in the place of a whole one."""
        if number not in self._whole:
            self._whole[number] = self._matches(number)
        return self._whole[number]

    def _matches(self, number):
        found = []
        for k in self._rules:
            left, right = self._rules[k]
            given = matching(self.store, left, number, {})
            if given is not None:
                found.append((k, self._filled(right, given)))
        return found

    def _filled(self, right, given):
        def made(part, places):
            return given[part] if isinstance(part, str) else self.store.composed(part[0], places)
        return folded(right, arguments, made)

    def all_steps(self, number):
        """The list of (path, number of a rule, new term) of all steps, ascending by path, then rule."""
        found = []
        todo = [(number, ())]
        while todo:
            part, path = todo.pop()
            for k, other in self.whole_steps(part):
                found.append((path, k, self._with_part(number, path, other)))
            below = [(a, (*path, i)) for i, a in enumerate(self.store.places[part])]
            todo.extend(below[::-1])
        return found

    def _with_part(self, number, path, other):
        """The term with another part at a path."""
        above = []
        for i in path:
            above.append(number)
            number = self.store.places[number][i]
        for i, term in zip(path[::-1], above[::-1]):
            other = self.store.with_argument(term, i, other)
        return other

    def after(self, number, path, k):
        """The term that the step with a path and a rule leads to, or None if they, of any value, are of no step."""
        if not isinstance(path, tuple) or not is_whole(k):
            return None
        part = number
        for i in path:
            if not is_number(i, len(self.store.places[part])):
                return None
            part = self.store.places[part][i]
        told = [other for rule, other in self.whole_steps(part) if rule == k]
        return self._with_part(number, path, told[0]) if told else None

    def targets(self, number, most):
        """The unlike terms that one step leads to, or None if there are more than most."""
        for part in sorted(self.store.parts_of(number)):
            if part not in self._ways:
                self._ways[part] = self._ways_of(part)
            # Unlike parts make unlike terms, so the term leads to as many terms as its parts do.
            if len(self._ways[part]) > most:
                return None
        return list(self._ways[number])

    def _ways_of(self, number):
        """Of each term that one step leads to, (None, rule), or a place and what the argument there becomes."""
        found = {}
        for k, other in self.whole_steps(number):
            found.setdefault(other, (None, k))
        places = self.store.places[number]
        for i, a in enumerate(places):
            for b in self._ways[a]:
                found.setdefault(self.store.with_argument(number, i, b), (i, b))
        return found

    def way(self, number, other):
        """The path and the rule of a step to one of the targets of a term."""
        path = []
        place, told = self._ways[number][other]
        while place is not None:
            path.append(place)
            number = self.store.places[number][place]
            place, told = self._ways[number][told]
        return tuple(path), told
