"""Books of rules and barred pairs, and what orders serve them."""

from shutbyrings.asked import asked_of
from shutbyrings.cases import shows_tree
from shutbyrings.errors import BadBar, BadRule, NoList, NoRule, Unlike
from shutbyrings.every import Every
from shutbyrings.facts import fits, look_at_facts
from shutbyrings.kinds import is_list_of, is_number, is_tuple_of
from shutbyrings.needed import FactSets
from shutbyrings.orders import Order, shows_steps, steps
from shutbyrings.search import Search
from shutbyrings.terms import is_term, spelled


class Book:
    """Rules that are to run downhill, and barred pairs, over signs."""

    def __init__(self, signs, rules, barred):
        number = _first_wrong(signs, rules)
        if number is not None:
            raise BadRule(number)
        number = _first_wrong(signs, barred)
        if number is not None:
            raise BadBar(number)
        self.signs = signs
        self._rules = list(rules)
        self._barred = list(barred)
        self._asked = None
        self._search = None

    @property
    def rules(self):
        return list(self._rules)

    @property
    def barred(self):
        return list(self._barred)

    def __len__(self):
        return len(self._rules)

    def __getitem__(self, number):
        if not is_number(number, len(self._rules)):
            raise NoRule(number)
        return self._rules[number]

    def __iter__(self):
        raise TypeError("a book is read by its numbers or its rules")

    def __eq__(self, other):
        if not isinstance(other, Book) or self.signs != other.signs:
            return False
        return _spelled(self._rules) == _spelled(other._rules) and _spelled(self._barred) == _spelled(other._barred)

    def __add__(self, other):
        if not isinstance(other, Book) or self.signs != other.signs:
            raise Unlike()
        return Book(self.signs, self._rules + other._rules, self._barred + other._barred)

    def without(self, numbers):
        self._look_at_numbers(numbers)
        return Book(self.signs, [rule for k, rule in enumerate(self._rules) if k not in numbers], self._barred)

    def turned(self, numbers):
        self._look_at_numbers(numbers)
        told = [(rule[1], rule[0]) if k in numbers else rule for k, rule in enumerate(self._rules)]
        return Book(self.signs, told, self._barred)

    def _look_at_numbers(self, numbers):
        if not isinstance(numbers, list):
            raise NoList()
        for number in numbers:
            if not is_number(number, len(self._rules)):
                raise NoRule(number)

    def asked(self):
        """What the book asks of orders, worked out once: the needs of many rules take their time."""
        if self._asked is None:
            self._asked = asked_of(FactSets(self.signs), self._rules, self._barred)
        return self._asked

    def search(self):
        """The search for orders that serve the book, made once."""
        if self._search is None:
            self._search = Search(self.asked(), Every(self.asked().sets))
        return self._search


def _first_wrong(signs, pairs):
    """The number of the first element that is no tuple of two terms, or None; raises NoList."""
    if not isinstance(pairs, list):
        raise NoList()
    for number, pair in enumerate(pairs):
        if not is_pair(signs, pair):
            return number
    return None


def is_pair(signs, value):
    """Whether a value is a tuple of two terms."""
    return is_tuple_of(value, 2) and is_term(signs, value[0]) and is_term(signs, value[1])


def _spelled(pairs):
    return [(spelled(left), spelled(right)) for left, right in pairs]


def unserved(order, book):
    """None if an order serves a book, else the first rule or the first barred pair against it."""
    if order.signs != book.signs:
        raise Unlike()
    for k, (left, right) in enumerate(book.rules):
        if not order(left, right):
            return "rule", k
    for j, (left, right) in enumerate(book.barred):
        if order(left, right):
            return "barred", j
    return None


def serves(book, facts, value):
    """Whether a value is an order that fits facts and serves a book."""
    if not isinstance(value, Order) or value.signs != book.signs:
        return False
    return fits(value, facts) and unserved(value, book) is None


def verdict(book, *, facts=()):
    """An order that fits facts and serves a book, with steps, or a tree of cases."""
    look_at_facts(book.signs, facts)
    search = book.search()
    known = book.asked().sets.of(facts)
    orders = search.serving(known)
    if orders == 0:
        return "no", search.cases(known)
    order = search.every.first(orders)
    return "yes", order, steps_of(order, book)


def steps_of(order, book):
    """The list of steps of the rules of a book, under an order that serves it."""
    return [steps(order, left, right) for left, right in book.rules]


def shows_served(book, value, *, facts=()):
    """Whether a value is an order that fits facts and serves a book, with the steps of its rules."""
    look_at_facts(book.signs, facts)
    if not is_tuple_of(value, 2) or not serves(book, facts, value[0]) or not is_list_of(value[1], len(book)):
        return False
    return all([shows_steps(value[0], rule[0], rule[1], told) for rule, told in zip(book.rules, value[1])])


def shows_shut(book, value, *, facts=()):
    """Whether a value is a tree of cases for a book and facts."""
    look_at_facts(book.signs, facts)
    return shows_tree(book.asked(), facts, value)
