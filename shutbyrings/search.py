"""Orders that do what is asked, and trees of cases where there is none.

A tree is told together with its ground: the set of those facts that it rests on. The
tree is right for all facts among which its ground is, so cases that nothing rests on
are left out, and one case serves all needs of a rule that have its facts.
"""

from shutbyrings.facts import clash, opposite
from shutbyrings.needed import has_part, least


class Search:
    """The search for orders, for what is asked, among all orders of the signs."""

    def __init__(self, asked, every):
        self.every = every
        self._sets = asked.sets
        self._wanted = {k: [(need, every.fitting(need)) for need in asked.wanted[k]] for k in asked.wanted}
        self._downhill = {k: _union([orders for _, orders in self._wanted[k]]) for k in self._wanted}
        self._banned = [(need, every.fitting(need), j, i)
                        for j in asked.banned for i, need in enumerate(asked.banned[j])]
        self._clear = every.whole & ~_union([row[1] for row in self._banned])

    def serving(self, facts, spared=()):
        """The orders that fit a set of facts and do what is asked, but for the rules of some numbers."""
        told = self.every.fitting(facts) & self._clear
        for k in self._downhill:
            if k not in spared:
                told = told & self._downhill[k]
        return told

    def cases(self, facts):
        """A tree of cases for a set of facts, where no order that fits does what is asked."""
        return self._shut(facts, self.every.fitting(facts))[0]

    def _shut(self, facts, orders):
        """A tree of cases for a set of facts, which the orders fit, and its ground."""
        if orders == 0:
            return self._clash(facts)
        for need, _, j, i in self._banned:
            if facts & need == need:
                return ("held", j, i), need
        word, number = self._pick(facts, orders)
        if word == "rule":
            return self._by_rule(number, facts, orders)
        return self._by_fact(number, facts)

    def _clash(self, facts):
        told = clash(self._sets.signs, self._sets.told(facts))
        word, met = told
        if word == "ways":
            return told, self._sets.of([("left", met), ("lots", met)])
        return told, self._sets.of([("above", f, g) for f, g in zip(met, met[1:] + met[:1])])

    def _pick(self, facts, orders):
        """("rule", k), or ("fact", fact of a need of a barred pair), where the fewest cases stay open."""
        found = []
        for k in self._wanted:
            if orders & ~self._downhill[k]:
                found.append((len([1 for _, fit in self._wanted[k] if fit & orders]), "rule", k))
        free = _union([fact for fact, fit in self.every.held if orders & fit and orders & ~fit])
        for need, fit, _, _ in self._banned:
            if fit & orders:
                found.append((_count(need & free), "fact", _lowest(need & ~facts)))
        return min(found)[1:]

    def _by_rule(self, k, facts, orders):
        cases = []
        mores = []
        for need, fit in self._wanted[k]:
            if not has_part(mores, need):
                tree, ground = self._shut(facts | need, orders & fit)
                more = ground & ~facts
                if more == 0:
                    return tree, ground
                cases.append((more, tree, ground & facts))
                mores.append(more)
        # A later case may have a part of the facts of an earlier one, and so serve all needs of that.
        fewest = least(mores)
        kept = [case for case in cases if case[0] in fewest]
        told = [(self._sets.told(case[0]), case[1]) for case in kept]
        return ("rule", k, told), _union([case[2] for case in kept])

    def _by_fact(self, fact, facts):
        name = self._sets.told(fact)[0]
        other = self._sets.of([opposite(name)])
        one_tree, one_ground = self._shut(facts | fact, self.every.fitting(facts | fact))
        if not one_ground & fact:
            return one_tree, one_ground
        other_tree, other_ground = self._shut(facts | other, self.every.fitting(facts | other))
        if not other_ground & other:
            return other_tree, other_ground
        ground = (one_ground & ~fact) | (other_ground & ~other)
        if name[0] == "above":
            return (*name, one_tree, other_tree), ground
        if name[0] == "left":
            return ("way", name[1], one_tree, other_tree), ground
        return ("way", name[1], other_tree, one_tree), ground


def _union(many):
    told = 0
    for one in many:
        told = told | one
    return told


def _lowest(many):
    return many & -many


def _count(many):
    told = 0
    while many:
        many = many & (many - 1)
        told = told + 1
    return told
