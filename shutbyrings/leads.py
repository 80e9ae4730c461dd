"""Leads: rules, barred pairs and facts that come and go."""

from shutbyrings.asked import Asked, needs_of
from shutbyrings.books import Book, is_pair, steps_of
from shutbyrings.cases import shows_tree
from shutbyrings.errors import BadFact, BadRule, NoFact, NoMark, NoRule
from shutbyrings.every import Every
from shutbyrings.facts import is_fact, opposite
from shutbyrings.kinds import is_number, is_whole
from shutbyrings.needed import FactSets, all_facts
from shutbyrings.overall import Overall
from shutbyrings.search import Search


class Lead:
    """What stands: rules and barred pairs by numbers, and facts that are claimed.

    Each deed makes a new dict and a new tuple of what stands, so marks and copies share them.
    """

    def __init__(self, signs):
        self.signs = signs
        self._pairs = {}
        self._facts = ()
        self._given = 0
        self._marks = []
        self._gained = []
        self._lost = []
        self._sets = FactSets(signs)
        self._every = Every(self._sets)
        self._needs = {}

    @property
    def numbers(self):
        return sorted(list(self._pairs))

    @property
    def facts(self):
        return self._facts

    @property
    def book(self):
        return Book(self.signs, self._pairs_of("rule"), self._pairs_of("barred"))

    def _pairs_of(self, word):
        return [pair for told, pair, _ in list(self._pairs.values()) if told == word]

    @property
    def changed(self):
        return list(self._gained), list(self._lost)

    def __len__(self):
        return len(self._pairs)

    def __contains__(self, number):
        return is_whole(number) and number in self._pairs

    def __getitem__(self, number):
        if number not in self:
            raise NoRule(number)
        word, pair, _ = self._pairs[number]
        return word, pair

    def __iter__(self):
        raise TypeError("a lead is read by its numbers")

    def put(self, rule):
        return self._take("rule", rule)

    def bar(self, pair):
        return self._take("barred", pair)

    def _take(self, word, pair):
        """Take in a rule or a barred pair with the orders that it lets stand."""
        if not is_pair(self.signs, pair):
            raise BadRule(self._given)
        number = self._given
        self._given = number + 1
        over = Overall(self._every).orders(pair[0], pair[1])
        orders = over if word == "rule" else self._every.whole & ~over
        self._become({**self._pairs, number: (word, pair, orders)}, self._facts)
        return number

    def withdraw(self, number):
        if number not in self:
            raise NoRule(number)
        self._become({k: self._pairs[k] for k in self._pairs if k != number}, self._facts)

    def claim(self, fact):
        if not is_fact(self.signs, fact):
            raise BadFact(0)
        fresh = fact not in self._facts
        facts = tuple(sorted([*self._facts, fact])) if fresh else self._facts
        self._become(self._pairs, facts)
        return fresh

    def give_up(self, fact):
        if fact not in self._facts:
            raise NoFact(fact)
        self._become(self._pairs, tuple([other for other in self._facts if other != fact]))

    def mark(self):
        self._marks = self._marks + [(self._pairs, self._facts)]
        return len(self._marks) - 1

    def back_to(self, number):
        if not is_number(number, len(self._marks)):
            raise NoMark(number)
        self._marks = self._marks[:number + 1]
        pairs, facts = self._marks[number]
        self._become(pairs, facts)

    def _become(self, pairs, facts):
        """Let other things stand, and look at what that changes."""
        before = self.sure_now()
        self._pairs = pairs
        self._facts = facts
        after = self.sure_now()
        self._gained = [fact for fact in after if fact not in before]
        self._lost = [fact for fact in before if fact not in after]

    def sure_now(self):
        orders = self._orders()
        return [fact for fact in all_facts(self.signs) if orders & self._every.where(opposite(fact)) == 0]

    def _orders(self):
        """The orders that fit the facts and serve the book."""
        told = self._every.fitting(self._sets.of(self._facts))
        for _, _, orders in list(self._pairs.values()):
            told = told & orders
        return told

    def verdict(self):
        orders = self._orders()
        if orders == 0:
            return "no", Search(self._question(), self._every).cases(self._sets.of(self._facts))
        order = self._every.first(orders)
        return "yes", order, steps_of(order, self.book)

    def shows_shut(self, value):
        return shows_tree(self._question(), self._facts, value)

    def _question(self):
        """What the book asks of orders, by the numbers of the lead; needs are worked out once for each."""
        asked = {"rule": {}, "barred": {}}
        for number, (word, pair, _) in list(self._pairs.items()):
            if number not in self._needs:
                self._needs[number] = needs_of(self._sets, pair)
            asked[word][number] = self._needs[number]
        return Asked(self._sets, asked["rule"], asked["barred"])

    def copy(self):
        other = Lead(self.signs)
        other._pairs = self._pairs
        other._facts = self._facts
        other._given = self._given
        other._marks = self._marks
        other._gained = self._gained
        other._lost = self._lost
        other._needs = dict(self._needs)
        return other
