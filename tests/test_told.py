"""Points 9, 12 and 16, seen from outside: comparisons that were seen, and terms that orders compare otherwise."""

import random
import unittest

import papers
import plain
import walks
from shutbyrings.books import Book, unserved
from shutbyrings.compared import compared
from shutbyrings.errors import BadFact, BadSeen, BadTerm, NoList, NoTuple
from shutbyrings.numbers import all_orders
from shutbyrings.orders import Order
from shutbyrings.terms import Signs, put
from shutbyrings.told import book_seen, parting
from values import ODD, nested, raised

SIGNS = Signs([('f', 2), ('g', 1), ('a', 0)])
FLAT = Signs([('a', 0), ('b', 0), ('c', 0)])
A, B, C = ('a',), ('b',), ('c',)
RING = (('above', 'a', 'b'), ('above', 'b', 'c'), ('above', 'c', 'a'))


class Seen(unittest.TestCase):
    def test_rules_and_barred_pairs_in_order(self):
        seen = [(A, B, False), (B, C, True), (A, C, True), (C, B, False), (A, B, False)]
        book = book_seen(seen=seen, signs=FLAT)
        self.assertEqual((book.rules, book.barred), ([(B, C), (A, C)], [(A, B), (C, B), (A, B)]))
        self.assertIs(book.signs, FLAT)
        self.assertEqual(book_seen(FLAT, []), Book(FLAT, [], []))

    def test_what_an_order_was_seen_to_compare(self):
        rng = random.Random(81)
        for _ in range(150):
            signs = Signs(rng.choice(papers.KINDS))
            pairs = [papers.drawn_pair(rng, signs) for _ in range(rng.randrange(4))]
            order = rng.choice(papers.orders_of(signs))
            book = book_seen(signs, [(s, t, order(s, t)) for s, t in pairs])
            self.assertIsNone(unserved(order, book))
            same = [one for one in papers.orders_of(signs) if all(one(s, t) == order(s, t) for s, t in pairs)]
            self.assertEqual(list(all_orders(book)), same)

    def test_list_is_copied(self):
        seen = [(A, B, True)]
        book = book_seen(FLAT, seen)
        seen.append((B, A, True))
        self.assertEqual(book.rules, [(A, B)])
        self.assertEqual(seen, [(A, B, True), (B, A, True)])

    def test_wrong_ones(self):
        good = (A, B, True)
        for value in ODD:
            if not isinstance(value, list):
                raised(self, NoList, book_seen, FLAT, value)
            self.assertEqual(raised(self, BadSeen, book_seen, FLAT, [good, value, None]).number, 1)
            if not isinstance(value, bool):
                self.assertEqual(raised(self, BadSeen, book_seen, FLAT, [(A, B, value)]).number, 0)
            if not (isinstance(value, str) and plain_variable(value)) and value != A:
                self.assertEqual(raised(self, BadSeen, book_seen, FLAT, [good, good, (value, A, True)]).number, 2)
                self.assertEqual(raised(self, BadSeen, book_seen, FLAT, [(A, value, False), 0]).number, 0)
        for value in ((A, B), (A, B, 1), (A, B, 0), [A, B, True], (A, B, True, True), (A, ('d',), True), (('g', 'X'), A, True),
                      (True, A, B), (A, B, None), ((A, B), True), (good,), ()):
            self.assertEqual(raised(self, BadSeen, book_seen, FLAT, [value]).number, 0)
        raised(self, NoList, book_seen, FLAT, ((A, B, True),))


def plain_variable(value):
    return value.isascii() and value.isalpha() and value.isupper() and len(value) <= 8


class Parting(unittest.TestCase):
    def check(self, book, terms, facts):
        told = parting(book, terms, facts=facts)
        places = walks.parting(book, terms, facts)
        if places is None:
            self.assertIsNone(told)
            return None
        s, t, one, other = told
        self.assertEqual((s, t), (terms[places[0]], terms[places[1]]))
        for order in (one, other):
            self.assertTrue(papers.is_order(book, facts, order))
        self.assertEqual((plain.above(one, s, t), plain.above(other, s, t)), (True, False))
        return told

    def test_against_a_plain_trial(self):
        rng = random.Random(82)
        found = []
        for _ in range(900):
            book = papers.drawn_book(rng, None, 2)
            facts = papers.drawn_facts(rng, book.signs)
            if len(papers.serving(book, facts)) > 1 or rng.random() < 0.1:
                terms = [plain.drawn(rng, book.signs, ['X', 'Y'], 3) for _ in range(rng.randrange(2, 7))]
                found.append(self.check(book, terms, facts))
        self.assertGreater(found.count(None), 50)
        self.assertGreater(len(found) - found.count(None), 50)

    def test_comparisons_are_open_in_the_same_way(self):
        rng = random.Random(83)
        for _ in range(150):
            signs = Signs(rng.choice(papers.KINDS))
            s, t = papers.drawn_pair(rng, signs)
            facts = papers.drawn_facts(rng, signs)
            told = parting(Book(signs, [], []), [s, t], facts=facts)
            words = compared(signs, s, t, facts=facts)[0], compared(signs, t, s, facts=facts)[0]
            self.assertEqual(told is not None, 'open' in words)
            if told is not None:
                self.assertEqual(told[:2], (s, t) if words[0] == 'open' else (t, s))

    def test_plain_ones(self):
        book = Book(FLAT, [(A, B)], [])
        self.assertIsNone(parting(book, [A, B]))
        self.assertIsNone(parting(book, []))
        self.assertIsNone(parting(book, [C, C]))
        self.assertIsNone(parting(book, ['X', 'Y']))
        self.assertEqual(parting(terms=[B, A, C], book=book)[:2], (B, C))
        self.assertEqual(parting(book, [C, B, A], facts=())[:2], (C, B))
        self.assertEqual(parting(book, [C, B, A], facts=(('above', 'c', 'b'),))[:2], (C, A))
        self.assertIsNone(parting(book, [C, B, A], facts=(('above', 'c', 'a'),)))

    def test_the_later_term_above_the_earlier_one(self):
        book = Book(SIGNS, [], [])
        told = parting(book, ['X', ('f', A, 'X'), ('g', 'X')])
        self.assertEqual(told[:2], (('f', A, 'X'), ('g', 'X')))
        told = parting(book, [('g', A), ('f', 'X', 'X')])
        self.assertEqual(told[:2], (('f', 'X', 'X'), ('g', A)))

    def test_no_order_serves(self):
        self.assertIsNone(parting(Book(FLAT, [(A, A)], []), [A, B, C]))
        self.assertIsNone(parting(Book(FLAT, [], []), [A, B, C], facts=RING))

    def test_terms_are_left_as_they_are(self):
        terms = [A, C]
        parting(Book(FLAT, [], []), terms)
        self.assertEqual(terms, [A, C])
        one, other = parting(Book(FLAT, [], []), terms)[2:]
        self.assertEqual((one, other), parting(Book(FLAT, [], []), terms)[2:])
        self.assertIsInstance(one, Order)

    def test_facts_then_list_then_terms(self):
        book = Book(FLAT, [(A, B)], [])
        for value in ODD:
            if not isinstance(value, tuple):
                raised(self, NoTuple, parting, book, None, facts=value)
            self.assertEqual(raised(self, BadFact, parting, book, ['x'], facts=(RING[0], value)).number, 1)
            if not isinstance(value, list):
                raised(self, NoList, parting, book, value)
            if not (isinstance(value, str) and plain_variable(value)) and value != A:
                self.assertIs(raised(self, BadTerm, parting, book, [A, 'X', value, 'x']).value, value)
        raised(self, NoList, parting, book, (A, B))
        raised(self, BadTerm, parting, Book(FLAT, [(A, A)], []), [A, ('g', 'X')])
        with self.assertRaises(TypeError):
            parting(book, [A, C], ())

    def test_deep_terms(self):
        deep = nested(150, lambda x: ('g', x))
        book = Book(SIGNS, [], [])
        told = parting(book, [put(deep, {'X': A}), put(deep, {'X': ('f', 'X', 'Y')})])
        self.assertEqual(told[2](told[0], told[1]), True)
        self.assertEqual(told[3](told[0], told[1]), False)


if __name__ == '__main__':
    unittest.main()
