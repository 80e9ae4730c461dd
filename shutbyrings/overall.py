"""Under which orders terms stand above each other, for all orders at once.

A set of orders is an integer, as in every. Facts are not needed for this, so terms of
which there are very many needs take no longer than others.
"""

from shutbyrings.numbered import Numbered


class Overall:
    """The sets of orders under which the parts of some terms are above those of others."""

    def __init__(self, every):
        self._every = every
        self._store = Numbered()
        self._known = {}

    def orders(self, s, t):
        """The orders under which s is above t."""
        one, other = self._store.take(s), self._store.take(t)
        columns = sorted(self._store.parts_of(other))
        for u in sorted(self._store.parts_of(one)):
            for v in columns:
                if (u, v) not in self._known:
                    self._known[(u, v)] = self._found(u, v)
        return self._known[(one, other)]

    def _found(self, u, v):
        heads, places = self._store.heads, self._store.places
        if heads[u] is None or u == v:
            return 0
        if v in places[u]:
            return self._every.whole
        told = self._one_of([(a, v) for a in places[u]])
        if heads[v] is None:
            return told
        rest = self._every.whole
        for b in places[v]:
            rest = rest & self._known[(u, b)]
        return told | (rest & self._by_signs(u, v))

    def _one_of(self, pairs):
        told = 0
        for pair in pairs:
            told = told | self._known[pair]
        return told

    def _by_signs(self, u, v):
        """The orders of the cases (sign), (left) and (lots), if u is above each argument of v."""
        heads, places = self._store.heads, self._store.places
        if heads[u] != heads[v]:
            return self._every.where(("above", heads[u], heads[v]))
        i = self._store.first_unlike(u, v)
        left = self._known[self._store.at(u, i, v, i)]
        if len(places[u]) == 1:
            return left
        left = left & self._every.where(("left", heads[u]))
        return left | (self._every.where(("lots", heads[u])) & self._by_lots(u, v))

    def _by_lots(self, u, v):
        kept, over = self._store.left_over(u, v)
        told = self._every.whole if kept else 0
        for j in over:
            told = told & self._one_of([self._store.at(u, i, v, j) for i in kept])
        return told
