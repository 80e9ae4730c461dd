"""What is asked of orders: that rules run downhill, and that no barred pair does."""

from shutbyrings.needed import Needed


class Asked:
    """The needs of rules and those of barred pairs, each list of them under its number.

    A need is a set of facts, as an integer of the sets that are handed in.
    """

    def __init__(self, sets, wanted, banned):
        self.sets = sets
        self.wanted = wanted
        self.banned = banned

    def without(self, numbers):
        """The same without the rules of some numbers."""
        return Asked(self.sets, {k: self.wanted[k] for k in self.wanted if k not in numbers}, self.banned)

    def opposed(self):
        """The rules as barred pairs, and the other way round."""
        return Asked(self.sets, self.banned, self.wanted)

    def with_rule(self, needs):
        """The same with one more rule, numbered from 0 on."""
        return Asked(self.sets, {**self.wanted, len(self.wanted): needs}, self.banned)

    def with_barred(self, needs):
        """The same with one more barred pair, numbered from 0 on."""
        return Asked(self.sets, self.wanted, {**self.banned, len(self.banned): needs})


def asked_of(sets, rules, barred):
    """What a list of rules and one of barred pairs ask, numbered from 0."""
    return Asked(sets, _needs_of(sets, rules), _needs_of(sets, barred))


def _needs_of(sets, pairs):
    return {number: needs_of(sets, pair) for number, pair in enumerate(pairs)}


def needs_of(sets, pair):
    """The needs of a pair, in their ascending order, as sets."""
    return [sets.of(need) for need in Needed(sets, pair[0], pair[1]).listed()]
