"""All orders of signs by their numbers.

A set of orders is an integer: its bit n stands for order number n.
"""

from shutbyrings.orders import Order


class Every:
    """The orders of the signs of some sets of facts, by their rows, then by their lists of lots."""

    def __init__(self, sets):
        self._sets = sets
        self._signs = sets.signs
        self._all_rows = _rows(self._signs.names)
        self._choices = _choices(self._signs.ways)
        self._kept = {}
        self.whole = (1 << len(self._all_rows) * len(self._choices)) - 1
        self.held = self._by_rows() + self._by_choices()

    def _by_rows(self):
        """Tuples (fact as a set, orders in which it holds) for one sign above another one."""
        width = len(self._choices)
        block = (1 << width) - 1
        found = {}
        for r, row in enumerate(self._all_rows):
            for k, f in enumerate(row):
                for g in row[k + 1:]:
                    found[(f, g)] = found.get((f, g), 0) | (block << r * width)
        return [(self._sets.of([("above", f, g)]), found[(f, g)]) for f, g in found]

    def _by_choices(self):
        """Such tuples for the ways of signs."""
        width = len(self._choices)
        starts = sum([1 << r * width for r in range(len(self._all_rows))])
        found = []
        for f in self._signs.ways:
            lots = sum([starts << c for c, choice in enumerate(self._choices) if f in choice])
            found.append((self._sets.of([("lots", f)]), lots))
            found.append((self._sets.of([("left", f)]), self.whole & ~lots))
        return found

    def fitting(self, facts):
        """The orders in which all facts of a set hold."""
        if facts not in self._kept:
            told = self.whole
            for fact, orders in self.held:
                if facts & fact:
                    told = told & orders
            self._kept[facts] = told
        return self._kept[facts]

    def where(self, fact):
        """The orders in which a fact holds."""
        return self.fitting(self._sets.of([fact]))

    def listed(self, orders):
        """The ascending list of the numbers of a set of orders."""
        return [number for number in range(orders.bit_length()) if (orders >> number) & 1]

    def first(self, orders):
        """The first order of a set that has one."""
        return self.order((orders & -orders).bit_length() - 1)

    def order(self, number):
        """The order with a number."""
        row = number // len(self._choices)
        return Order(self._signs, self._all_rows[row], self._choices[number - row * len(self._choices)])

    def place(self, order):
        """The number of an order."""
        return self._all_rows.index(order.names) * len(self._choices) + self._choices.index(order.lots)


def _rows(names):
    """All rows of names, by the places that the names have in the list."""
    rows = [[]]
    for _ in names:
        rows = [row + [f] for row in rows for f in names if f not in row]
    return rows


def _choices(names):
    """The ascending list of all ascending lists of some of the names, which are ascending."""
    told = [[]]
    for f in names:
        told = told + [choice + [f] for choice in told]
    return sorted(told)
