"""Points 3 and 22 for books: at the bounds no call takes long, and each paper is shown."""

import random
import time
import unittest

import papers
import plain
from shutbyrings.books import Book, shows_served, shows_shut, unserved, verdict
from shutbyrings.compared import compared, fates, implied, shows_compared, shows_fate, shows_implied, sure
from shutbyrings.facts import needs
from shutbyrings.least import forcing, least_drop, shows_drop, shows_forcing, shows_turns, turns
from shutbyrings.numbers import all_orders, at_number, how_many, number_of
from shutbyrings.orders import Order
from shutbyrings.terms import Signs, parts, put, size
from test_bounds import KINDS, large
from values import nested

LONG = 20


def drawn_pair(rng, signs):
    """Terms of up to thirty signs; most often the right one has the variables of the left one."""
    while True:
        s = large(rng, signs, ['X', 'Y', 'Z'], rng.choice([2, 3, 4, 6]), rng.choice([5, 10, 20, 30]))
        t = large(rng, signs, ['X', 'Y'], rng.choice([2, 3, 4, 6]), rng.choice([5, 10, 20, 30]))
        if rng.random() < 0.3:
            t = put(t, {'X': rng.choice(parts(s)), 'Y': rng.choice(parts(s))})
        if size(t) <= 30 and (needs(signs, s, t) or rng.random() < 0.05):
            return s, t


def drawn_book(rng, signs, rules, barred):
    """A book with the product of the numbers of needs at most 5,000."""
    told, shut, product, most = [], [], 1, 1
    for _ in range(4 * (rules + barred)):
        s, t = drawn_pair(rng, signs)
        many = max(1, len(needs(signs, s, t)), len(needs(signs, t, s)))
        if len(told) < rules and product * many * most <= 5000:
            told.append((s, t))
            product *= many
        elif len(shut) < barred and product * max(most, many) <= 5000:
            shut.append((s, t))
            most = max(most, many)
    return Book(signs, told, shut)


class AtTheBounds(unittest.TestCase):
    def timed(self, call, *given, **named):
        start = time.monotonic()
        told = call(*given, **named)
        self.assertLess(time.monotonic() - start, LONG, call.__name__)
        return told

    def fresh(self, book):
        return Book(book.signs, book.rules, book.barred)

    def check(self, book, facts):
        told = self.timed(verdict, self.fresh(book), facts=facts)
        if told[0] == 'yes':
            self.assertTrue(self.timed(shows_served, book, told[1:], facts=facts))
            self.assertIsNone(unserved(told[1], book))
        else:
            self.assertTrue(self.timed(shows_shut, self.fresh(book), told[1], facts=facts))
        rows = self.timed(fates, self.fresh(book), facts=facts)
        self.assertTrue(all(self.timed(shows_fate, book, row, facts=facts) for row in rows))
        self.assertEqual([row[0] for row in rows if row[1] == 'sure'], self.timed(sure, self.fresh(book), facts=facts))
        self.check_fewest(book, facts)
        self.check_numbers(book, facts, told)

    def check_fewest(self, book, facts):
        drop = self.timed(least_drop, self.fresh(book), facts=facts)
        self.assertTrue(self.timed(shows_drop, self.fresh(book), drop, facts=facts))
        if len(book) <= 5:
            told = self.timed(turns, self.fresh(book), facts=facts)
            self.assertTrue(self.timed(shows_turns, self.fresh(book), told, facts=facts))
        told = self.timed(forcing, self.fresh(book))
        if told[0] == 'yes':
            self.assertTrue(self.timed(shows_forcing, self.fresh(book), told[1:]))
        else:
            self.assertTrue(shows_shut(book, told[1]))
        half = book.without(list(range(0, len(book), 2)))
        told = self.timed(implied, half, self.fresh(book), facts=facts)
        self.assertTrue(self.timed(shows_implied, half, self.fresh(book), told, facts=facts))

    def check_numbers(self, book, facts, told):
        many = self.timed(how_many, self.fresh(book), facts=facts)
        self.assertEqual(many > 0, told[0] == 'yes')
        self.assertEqual(sum(1 for _ in self.timed(all_orders, book, facts=facts)), many)
        for number in {0, many // 2, many - 1}:
            if many:
                order = self.timed(at_number, book, number, facts=facts)
                self.assertEqual(self.timed(number_of, book, order, facts=facts), number)
                self.assertTrue(papers.fits(order, facts) and papers.serves(order, book))

    def test_books_of_large_terms(self):
        rng = random.Random(51)
        for pairs in KINDS:
            signs = Signs(pairs)
            for rules, barred in ((0, 8), (1, 1), (2, 3), (3, 8), (5, 2), (8, 0), (8, 8)):
                book = drawn_book(rng, signs, rules, barred)
                self.check(book, tuple(rng.sample(plain.all_facts(signs), rng.choice([0, 0, 1, 3]))))

    def test_comparisons_of_large_terms(self):
        rng = random.Random(52)
        for pairs in KINDS:
            signs = Signs(pairs)
            for _ in range(15):
                s, t = drawn_pair(rng, signs)
                told = self.timed(compared, signs, s, t)
                self.assertTrue(self.timed(shows_compared, signs, s, t, told))
                orders = [at_number(Book(signs, [], []), rng.randrange(how_many(Book(signs, [], [])))) for _ in range(5)]
                above = [order(s, t) for order in orders]
                self.assertTrue(told[0] == 'open' or set(above) == {told[0] == 'always'})

    def test_rings_of_constants(self):
        signs = Signs([('a', 0), ('b', 0), ('c', 0), ('d', 0), ('e', 0)])
        names = [(f,) for f in signs.names]
        chain = list(zip(names, names[1:] + names[:1]))
        self.check(Book(signs, chain + chain[:3], []), ())
        self.check(Book(signs, chain[:4], [(names[4], names[0])] + chain[1:4]), ())
        self.check(Book(signs, [], chain + [pair[::-1] for pair in chain[:3]]), ())
        self.check(Book(signs, [], [(one, other) for one in names[:3] for other in names[:3] if one != other]), ())

    def test_choices_that_hang_together(self):
        # Each rule asks that one of some signs stands above another one, so that cases multiply.
        signs = Signs([('f', 3), ('a', 0), ('b', 0), ('c', 0), ('d', 0)])
        rng = random.Random(53)
        low = [('a',), ('b',), ('c',), ('d',)]
        for _ in range(12):
            rules = [(('f', *rng.sample(low, 3)), ('f', *rng.sample(low, 3))) for _ in range(8)]
            self.check(Book(signs, rules[:5], rules[5:]), ())
            self.check(Book(signs, [], rules), ())
            self.check(Book(signs, rules[:3], rules[3:]), (('lots', 'f'),))

    def test_somewhat_beyond(self):
        signs = Signs(KINDS[3])
        rng = random.Random(54)
        book = drawn_book(rng, signs, 6, 9)
        self.check(book, tuple(plain.all_facts(signs)[:1] * 3))
        told = self.timed(turns, self.fresh(book))
        self.assertTrue(self.timed(shows_turns, book, told))
        ten = Book(signs, (book.rules * 2)[:10], book.barred)
        self.assertTrue(self.timed(shows_drop, ten, self.timed(least_drop, ten)))


class DeepTerms(unittest.TestCase):
    def test_terms_that_are_told(self):
        signs = Signs([('g', 1), ('a', 0), ('b', 0)])
        deep = nested(400, lambda x: ('g', x))
        one, other = put(deep, {'X': ('a',)}), put(deep, {'X': ('b',)})
        book = Book(signs, [(deep, 'X')], [(other, one)])
        self.assertEqual([order.names.index('a') < order.names.index('b') for order in all_orders(book)], [True] * 3)
        self.assertEqual(book.turned([0]).rules, [('X', deep)])
        self.assertEqual(len((book + book).rules), 2)
        self.assertTrue(shows_served(book, verdict(book)[1:]))
        self.assertTrue(shows_shut(book, verdict(book, facts=(('above', 'b', 'a'),))[1], facts=(('above', 'b', 'a'),)))
        self.assertEqual(compared(signs, one, other)[0], 'open')
        self.assertTrue(shows_compared(signs, one, 'X', compared(signs, one, 'X')))
        self.assertEqual(unserved(Order(signs, ['b', 'a', 'g'], []), book), ('barred', 0))


if __name__ == '__main__':
    unittest.main()
