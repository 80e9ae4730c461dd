"""When a part of a term stands above a part of another one under an order, and the steps of it."""

from shutbyrings.numbered import Numbered, folded


class Pair:
    """Two terms s and t by numbers, with what an order says of their signs."""

    def __init__(self, order, s, t):
        self.store = Numbered()
        self.s = self.store.take(s)
        self.t = self.store.take(t)
        self._rank = {name: place for place, name in enumerate(order.names)}
        self._with_lots = {name: True for name in order.lots}

    def case_of(self, u, v):
        """The one case of point 5, besides (part), in which u may be above v, or "none"."""
        f, g = self.store.heads[u], self.store.heads[v]
        if f is None or g is None or u == v:
            return "none"
        if f == g:
            return "lots" if f in self._with_lots else "left"
        return "sign" if self._rank[f] < self._rank[g] else "none"

    def with_arguments(self, u, v):
        """The pairs of u and each argument of v."""
        return [(u, b) for b in self.store.places[v]]


class Above:
    """What is above what among the parts of a pair of terms.

    The parts of t that a part u of s is above are the bits of over[u]. Parts have
    smaller numbers than what they are parts of, so the bits are found in ascending order.
    """

    def __init__(self, pair):
        self.pair = pair
        self.store = pair.store
        self._columns = sorted([v for v in self.store.parts_of(pair.t) if self.store.heads[v] is not None])
        self._wanted = {v: _bits(self.store.places[v]) for v in self._columns}
        self.over = []
        for u in range(pair.s + 1):
            self.over.append(0)
            self._fill(u)

    def holds(self, u, v):
        """Whether u is above v."""
        return (self.over[u] >> v) & 1 == 1

    def _fill(self, u):
        row = _bits(self.store.places[u])
        for a in self.store.places[u]:
            row = row | self.over[a]
        self.over[u] = row
        for v in self._columns:
            wanted = self._wanted[v]
            if self.over[u] & wanted == wanted and self._by_case(u, v):
                self.over[u] = self.over[u] | (1 << v)

    def _by_case(self, u, v):
        case = self.pair.case_of(u, v)
        if case == "left":
            i = self.store.first_unlike(u, v)
            a, b = self.store.at(u, i, v, i)
            return self.holds(a, b)
        if case == "lots":
            return len(self._rows(u, v)) > 0
        return case == "sign"

    def _rows(self, u, v):
        """Tuples (j, i) of each place left of v and one left of u above it; none where that is not so."""
        kept, over = self.store.left_over(u, v)
        rows = []
        for j in over:
            b = self.store.places[v][j]
            fit = [i for i in kept if self.holds(self.store.places[u][i], b)]
            if not fit:
                return []
            rows.append((j, fit[0]))
        return rows

    def _way(self, u, v):
        """How u is above v: the word of steps, their place or rows, and the pairs that they go on with."""
        places = self.store.places[u]
        if v in places:
            return "part", places.index(v), []
        for i, a in enumerate(places):
            if self.holds(a, v):
                return "part", i, [(a, v)]
        rest = self.pair.with_arguments(u, v)
        case = self.pair.case_of(u, v)
        if case == "left":
            i = self.store.first_unlike(u, v)
            return case, i, [self.store.at(u, i, v, i)] + rest
        if case == "lots":
            rows = self._rows(u, v)
            return case, rows, [self.store.at(u, i, v, j) for j, i in rows] + rest
        return case, None, rest

    def _needed(self, node):
        return self._way(node[0], node[1])[2]

    def _made(self, node, told):
        word, where, needed = self._way(node[0], node[1])
        if word == "part":
            return word, where, told[0] if needed else None
        if word == "left":
            return word, where, told[0], told[1:]
        if word == "lots":
            rows = [(j, i, told[k]) for k, (j, i) in enumerate(where)]
            return word, rows, told[len(rows):]
        return word, told

    def steps(self):
        """Steps of s above t, which is so."""
        return folded((self.pair.s, self.pair.t), self._needed, self._made)


def _bits(numbers):
    told = 0
    for number in numbers:
        told = told | (1 << number)
    return told
