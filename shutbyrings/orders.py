"""Orders of signs: when a term stands above another one, and steps that show it."""

from shutbyrings.above import Above, Pair
from shutbyrings.errors import BadLots, BadNames
from shutbyrings.kinds import is_choice
from shutbyrings.shown import shows_above
from shutbyrings.terms import look_at_terms


class Order:
    """A row of all signs, from the highest to the lowest, and a way for each sign of arity 2 or 3."""

    def __init__(self, signs, names, lots):
        if not is_choice(names, signs.names) or len(names) != len(signs):
            raise BadNames()
        if not is_choice(lots, signs.ways):
            raise BadLots()
        self.signs = signs
        self._names = list(names)
        self._lots = sorted(lots)
        self._facts = _facts_of(self._names, self._lots, signs.ways)

    @property
    def names(self):
        return list(self._names)

    @property
    def lots(self):
        return list(self._lots)

    @property
    def facts(self):
        return self._facts

    def __call__(self, s, t):
        look_at_terms(self.signs, s, t)
        return _is_above(Pair(self, s, t))

    def __eq__(self, other):
        if not isinstance(other, Order):
            return False
        return self.signs == other.signs and self._names == other._names and self._lots == other._lots


def _facts_of(names, lots, ways):
    above = [("above", f, g) for k, f in enumerate(names) for g in names[k + 1:]]
    told = [("lots" if f in lots else "left", f) for f in ways]
    return tuple(sorted(above + told))


def _is_above(pair):
    return Above(pair).holds(pair.s, pair.t)


def steps(order, s, t):
    """Steps that show that s is above t, or None if it is not."""
    look_at_terms(order.signs, s, t)
    table = Above(Pair(order, s, t))
    return table.steps() if table.holds(table.pair.s, table.pair.t) else None


def shows_steps(order, s, t, value):
    """Whether a value is steps that show that s is above t."""
    look_at_terms(order.signs, s, t)
    return shows_above(Pair(order, s, t), value)
