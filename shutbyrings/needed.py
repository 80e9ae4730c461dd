"""The sets of facts by which a part of a term is above a part of another one.

A set of facts is an integer: its bit k stands for number k of all facts in ascending
order. Of each family of sets only those are kept that are possible and have no other one
as a part; sets only grow when they are joined, so nothing that is needed gets lost.
"""

from shutbyrings.numbered import Numbered


def all_facts(signs):
    """The ascending list of all facts of signs."""
    above = [("above", f, g) for f in signs.names for g in signs.names if f != g]
    return sorted(above + [(way, f) for way in ("left", "lots") for f in signs.ways])


class FactSets:
    """Sets of facts of signs as integers, and families of such sets as lists."""

    def __init__(self, signs):
        self.signs = signs
        self._all = all_facts(signs)
        self._bit = {fact: 1 << k for k, fact in enumerate(self._all)}
        self._row = signs.names
        self._both = [self._bit[("left", f)] | self._bit[("lots", f)] for f in signs.ways]
        self._over = {g: self.of([("above", f, g) for f in self._row if f != g]) for g in self._row}
        self._under = {f: self.of([("above", f, g) for g in self._row if f != g]) for f in self._row}
        self._known = {}

    def of(self, facts):
        """The set of facts, which may stand there more than once."""
        told = 0
        for fact in facts:
            told = told | self._bit[fact]
        return told

    def told(self, many):
        """The ascending tuple of the facts of a set."""
        return tuple([fact for fact in self._all if self._bit[fact] & many])

    def listed(self, family):
        """The ascending list of the sets of a family, each an ascending tuple of facts."""
        return sorted([self.told(many) for many in family])

    def is_possible(self, many):
        """Whether some order fits a set."""
        if many not in self._known:
            clear = all([(many & both) != both for both in self._both])
            self._known[many] = clear and self._has_no_ring(many)
        return self._known[many]

    def _has_no_ring(self, many):
        rest = self._row
        while rest:
            stuck = [g for g in rest if many & self._over[g]]
            if len(stuck) == len(rest):
                return False
            for f in rest:
                if f not in stuck:
                    many = many & ~self._under[f]
            rest = stuck
        return True

    def joined(self, families, known):
        """The least possible sets that have a part from each family and none that is known."""
        told = [0]
        for family in sorted(families, key=len):
            found = _unions(told, family)
            told = least([many for many in found if self.is_possible(many) and not has_part(known, many)])
        return told


def _unions(one, other):
    """The unlike unions of a set of each of two families, without some that have another one as a part."""
    found = {}
    for many in one:
        if has_part(other, many):
            found[many] = True
        else:
            for more in other:
                found[many | more] = True
    return list(found)


def least(family):
    """The unlike sets of a family that have no other one as a part, ascending."""
    kept = []
    for many in sorted(family):
        # A part of a set is a smaller integer, so it was met before.
        if not has_part(kept, many):
            kept.append(many)
    return kept


def has_part(family, many):
    """Whether a set of a family is a part of a set."""
    for other in family:
        if other & many == other:
            return True
    return False


class Needed:
    """The families of the sets by which the parts of s are above the parts of t."""

    def __init__(self, sets, s, t):
        self._sets = sets
        self._store = Numbered()
        self._s = self._store.take(s)
        self._t = self._store.take(t)
        self._table = []
        columns = sorted(self._store.parts_of(self._t))
        for u in range(self._s + 1):
            self._table.append({})
            for v in columns:
                self._table[u][v] = self._family(u, v)

    def listed(self):
        """The needs of s above t."""
        return self._sets.listed(self._table[self._s][self._t])

    def _family(self, u, v):
        heads, places = self._store.heads, self._store.places
        if heads[u] is None or u == v:
            return []
        if v in places[u]:
            return [0]
        known = least([many for a in places[u] for many in self._table[a][v]])
        if heads[v] is None or 0 in known:
            return known
        return least(known + self._by_signs(u, v, known))

    def _by_signs(self, u, v, known):
        """The sets of the cases (sign), (left) and (lots)."""
        heads, places = self._store.heads, self._store.places
        rest = [self._table[u][b] for b in places[v]]
        if heads[u] != heads[v]:
            return self._with_fact(("above", heads[u], heads[v]), rest, known)
        i = self._store.first_unlike(u, v)
        rest = [self._sets.joined(rest, known)]
        first = rest + [self._table[places[u][i]][places[v][i]]]
        if len(places[u]) == 1:
            return self._sets.joined(first, known)
        left = self._with_fact(("left", heads[u]), first, known)
        return left + self._by_lots(u, v, rest, known)

    def _by_lots(self, u, v, rest, known):
        kept, over = self._store.left_over(u, v)
        if not over:
            return []
        families = rest
        for j in over:
            pairs = [self._store.at(u, i, v, j) for i in kept]
            families = families + [least([many for a, b in pairs for many in self._table[a][b]])]
        return self._with_fact(("lots", self._store.heads[u]), families, known)

    def _with_fact(self, fact, families, known):
        return self._sets.joined([[self._sets.of([fact])]] + families, known)
