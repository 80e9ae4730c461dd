"""Points 11 and 12: comparisons under all orders, facts that are sure, books that follow."""

import random
import unittest

import papers
import plain
from shutbyrings.books import Book
from shutbyrings.compared import compared, fates, implied, shows_compared, shows_fate, shows_implied, sure
from shutbyrings.errors import BadFact, BadTerm, NoTuple, Unlike
from shutbyrings.orders import Order
from shutbyrings.terms import Signs
from values import ODD, changed

SIGNS = Signs([('f', 2), ('g', 1), ('a', 0)])
FLAT = Signs([('a', 0), ('b', 0), ('c', 0)])
A, B, C = ('a',), ('b',), ('c',)
RING = (('above', 'a', 'b'), ('above', 'b', 'c'), ('above', 'c', 'a'))


def raised(self, kind, call, *given, **named):
    with self.assertRaises(kind) as caught:
        call(*given, **named)
    return caught.exception


def drawn(rng):
    signs = Signs(rng.choice(papers.KINDS))
    return signs, papers.drawn_pair(rng, signs), papers.drawn_facts(rng, signs)


class Compared(unittest.TestCase):
    def test_just_one_of_three(self):
        rng = random.Random(21)
        words = []
        for _ in range(600):
            signs, (s, t), facts = drawn(rng)
            orders = papers.serving(Book(signs, [], []), facts)
            over = [order for order in orders if plain.above(order, s, t)]
            told = compared(signs, s, t, facts=facts)
            word = 'open' if len(over) < len(orders) else 'always'
            self.assertEqual(told[0], 'none' if not orders else 'never' if not over else word)
            self.assertTrue(papers.compared_shown(signs, s, t, facts, told))
            self.assertIs(shows_compared(signs, s, t, told, facts=facts), True)
            words.append(told[0])
        for word in ('none', 'always', 'never', 'open'):
            self.assertGreater(words.count(word), 15)

    def test_plain_ones(self):
        self.assertEqual(compared(SIGNS, ('g', 'X'), 'X'), ('always', ('held', 0, 0)))
        self.assertEqual(compared(SIGNS, 'X', ('g', 'X')), ('never', ('rule', 0, [])))
        self.assertEqual(compared(SIGNS, A, A)[0], 'never')
        told = compared(SIGNS, s=('g', 'X'), t=A, facts=())
        self.assertEqual((told[0], told[1](('g', 'X'), A), told[2](('g', 'X'), A)), ('open', True, False))
        self.assertEqual(compared(Signs([('a', 0)]), A, 'X'), ('never', ('rule', 0, [])))

    def test_always_by_cases(self):
        signs = Signs([('f', 2), ('a', 0), ('b', 0)])
        s, t = ('f', A, A), ('f', B, B)
        self.assertEqual(compared(signs, s, t, facts=(('above', 'a', 'b'),))[0], 'always')
        self.assertEqual(compared(signs, s, t, facts=(('above', 'b', 'a'),))[0], 'never')
        self.assertEqual(compared(signs, s, t, facts=(('left', 'f'),))[0], 'open')

    def test_facts_that_are_not_possible(self):
        told = compared(FLAT, A, B, facts=RING)
        self.assertEqual(told[0], 'none')
        for word in ('always', 'never', 'open', 'None'):
            self.assertFalse(shows_compared(FLAT, A, B, (word, told[1]), facts=RING))
        self.assertTrue(shows_compared(FLAT, A, B, ('none', ('ring', ['b', 'c', 'a'])), facts=RING))
        self.assertFalse(shows_compared(FLAT, A, B, told, facts=RING[:2]))
        self.assertFalse(shows_compared(FLAT, A, B, ('none', None), facts=RING[:2]))
        self.assertFalse(shows_compared(FLAT, A, B, ('none', ('held', 0, 0)), facts=RING))

    def test_papers_with_a_part_otherwise(self):
        rng = random.Random(22)
        for _ in range(120):
            signs, (s, t), facts = drawn(rng)
            told = compared(signs, s, t, facts=facts)
            if len(repr(told)) < 300:
                for value in changed(told):
                    right = papers.compared_shown(signs, s, t, facts, value)
                    self.assertIs(shows_compared(signs, s, t, value, facts=facts), right, value)

    def test_words_exchanged(self):
        rng = random.Random(23)
        for _ in range(100):
            signs, (s, t), facts = drawn(rng)
            told = compared(signs, s, t, facts=facts)
            for word in ('always', 'never', 'open', 'none'):
                self.assertIs(shows_compared(signs, s, t, (word, *told[1:]), facts=facts), word == told[0])

    def test_open_orders(self):
        one, other = Order(FLAT, ['a', 'b', 'c'], []), Order(FLAT, ['b', 'a', 'c'], [])
        facts = (('above', 'a', 'c'),)
        self.assertTrue(shows_compared(FLAT, A, B, ('open', one, other), facts=facts))
        for value in (('open', other, one), ('open', one, one), ('open', other, other), ('open', one), ['open', one, other],
                      ('open', one, other, one), ('open', Order(FLAT, ['c', 'a', 'b'], []), other),
                      ('open', one, Order(FLAT, ['b', 'c', 'a'], [])), ('open', one, Order(SIGNS, ['g', 'f', 'a'], [])),
                      ('open', None, other), ('open', one, FLAT)):
            self.assertFalse(shows_compared(FLAT, A, B, value, facts=facts))

    def test_values_of_many_forms(self):
        for value in ODD:
            self.assertIs(shows_compared(FLAT, A, B, value), False)
            for odd in ((value, value), ('always', value), ('never', value), ('none', value), ('open', value, value),
                        (value, value, value), (value,)):
                self.assertIs(shows_compared(FLAT, A, B, odd), False)

    def test_terms_then_facts(self):
        for call in (lambda s, t, facts: compared(FLAT, s, t, facts=facts),
                     lambda s, t, facts: shows_compared(FLAT, s, t, None, facts=facts)):
            self.assertEqual(raised(self, BadTerm, call, 'x', 'y', None).value, 'x')
            self.assertEqual(raised(self, BadTerm, call, A, ('a', 'X'), 3).value, ('a', 'X'))
            raised(self, NoTuple, call, A, B, [])
            self.assertEqual(raised(self, BadFact, call, A, B, (RING[0], ('left', 'a'))).number, 1)
            for value in ODD:
                if value not in ('X', 'A' * 9, A):
                    self.assertIs(raised(self, BadTerm, call, value, 'x', None).value, value)
                if not isinstance(value, tuple):
                    raised(self, NoTuple, call, A, B, value)
                self.assertEqual(raised(self, BadFact, call, A, B, (value,)).number, 0)
        with self.assertRaises(TypeError):
            compared(FLAT, A, B, ())


class Fates(unittest.TestCase):
    def test_against_a_plain_trial(self):
        rng = random.Random(24)
        words = []
        for _ in range(200):
            book = papers.drawn_book(rng)
            facts = papers.drawn_facts(rng, book.signs)
            told = fates(book, facts=facts)
            known = plain.all_facts(book.signs)
            orders = papers.serving(book, facts)
            self.assertEqual([row[0] for row in told], known)
            self.assertEqual([row[1] for row in told],
                             ['sure' if papers.fits_all(orders, fact) else 'free' for fact in known])
            self.assertEqual(sure(book, facts=facts), [row[0] for row in told if row[1] == 'sure'])
            for row in told:
                self.assertTrue(papers.fate_shown(book, facts, row))
                self.assertIs(shows_fate(book, row, facts=facts), True)
            words.extend(row[1] for row in told)
        self.assertGreater(words.count('free'), 100)
        self.assertGreater(words.count('sure'), 100)

    def test_no_order(self):
        book = Book(FLAT, [(A, A)], [])
        self.assertEqual(sure(book), plain.all_facts(FLAT))
        self.assertEqual(sure(Book(FLAT, [], []), facts=RING), plain.all_facts(FLAT))
        self.assertTrue(all(row[1] == 'sure' and shows_fate(book, row) for row in fates(book)))

    def test_edges(self):
        self.assertEqual(fates(Book(Signs([('a', 0)]), [], [])), [])
        self.assertEqual(sure(Book(Signs([('a', 0)]), [(A, A)], [])), [])
        self.assertEqual(sure(Book(FLAT, [], [])), [])
        chain = Book(FLAT, [(A, B), (B, C)], [])
        self.assertEqual(sure(chain), [('above', 'a', 'b'), ('above', 'a', 'c'), ('above', 'b', 'c')])
        self.assertEqual(sure(chain, facts=(('above', 'a', 'c'),) * 3), sure(chain))
        self.assertEqual(sure(Book(FLAT, [], []), facts=RING[:2]), sure(chain))

    def test_papers_with_a_part_otherwise(self):
        rng = random.Random(25)
        for _ in range(40):
            book = papers.drawn_book(rng, None, 2)
            facts = papers.drawn_facts(rng, book.signs)
            for told in fates(book, facts=facts)[:4]:
                if len(repr(told)) < 250:
                    for value in changed(told):
                        self.assertIs(shows_fate(book, value, facts=facts), papers.fate_shown(book, facts, value), value)

    def test_facts_and_words_exchanged(self):
        rng = random.Random(26)
        for _ in range(60):
            book = papers.drawn_book(rng, None, 2)
            rows = fates(book)
            for one in rows:
                for other in rows:
                    for value in ((one[0], one[1], other[2]), (one[0], other[1], one[2]), (one[0], other[1], other[2])):
                        self.assertIs(shows_fate(book, value), papers.fate_shown(book, (), value))

    def test_values_of_many_forms(self):
        book = Book(SIGNS, [(('g', A), A)], [(('f', A, A), A)])
        fact = ('above', 'f', 'g')
        for value in ODD:
            for odd in (value, (value, 'sure', ('held', 0, 0)), (fact, value, ('rule', 0, [])), (fact, 'sure', value),
                        (fact, 'free', value), (value, value, value), [fact, 'sure', value], (fact, 'sure'),
                        (fact, 'sure', ('ring', value)), (('left', value), 'sure', ('ring', ['f', 'a']))):
                right = papers.is_small(odd) and papers.fate_shown(book, (), odd)
                self.assertIs(shows_fate(book, odd), right, odd)

    def test_facts_are_looked_at(self):
        book = Book(FLAT, [(A, B)], [])
        for call in (lambda facts: fates(book, facts=facts), lambda facts: sure(book, facts=facts),
                     lambda facts: shows_fate(book, None, facts=facts)):
            for value in ODD:
                if not isinstance(value, tuple):
                    raised(self, NoTuple, call, value)
                self.assertEqual(raised(self, BadFact, call, (RING[0], RING[1], value)).number, 2)
        for call in (fates, sure):
            with self.assertRaises(TypeError):
                call(book, ())

    def test_lists_are_new(self):
        book = Book(FLAT, [(A, B)], [])
        sure(book).clear()
        fates(book).clear()
        fates(book)[0][2][2].clear()
        self.assertEqual((len(sure(book)), len(fates(book))), (1, 6))
        self.assertEqual(fates(book), fates(Book(FLAT, [(A, B)], [])))


class Implied(unittest.TestCase):
    def test_against_a_plain_trial(self):
        rng = random.Random(27)
        words = []
        for _ in range(400):
            signs = Signs(rng.choice(papers.KINDS))
            one, other = papers.drawn_book(rng, signs), papers.drawn_book(rng, signs, 2)
            facts = papers.drawn_facts(rng, signs)
            told = implied(one, other, facts=facts)
            right = all(papers.serves(order, other) for order in papers.serving(one, facts))
            self.assertEqual(told[0], 'yes' if right else 'no')
            self.assertTrue(papers.implied_shown(one, other, facts, told))
            self.assertIs(shows_implied(one, other, told, facts=facts), True)
            words.append(told[0])
        self.assertTrue(60 < words.count('yes') < 340)

    def test_edges(self):
        empty, shut = Book(FLAT, [], []), Book(FLAT, [(A, A)], [])
        self.assertEqual(implied(empty, empty), ('yes', []))
        self.assertEqual(implied(shut, empty), ('yes', []))
        self.assertEqual(implied(empty, shut)[0], 'no')
        self.assertEqual(implied(shut, shut), ('yes', [('rule', 0, [])]))
        self.assertEqual(implied(empty, shut, facts=RING)[0], 'yes')
        same = Signs([('a', 0), ('b', 0), ('c', 0)])
        told = implied(one=Book(FLAT, [(A, B), (B, C)], []), other=Book(same, [(A, C)], [(C, A), (B, A)]))
        self.assertEqual((told[0], len(told[1])), ('yes', 3))

    def test_one_more_pair_behind_its_own(self):
        one = Book(FLAT, [(A, B)], [(B, C), (C, B)])
        other = Book(FLAT, [(A, B), (A, C)], [(B, A)])
        self.assertEqual(implied(one, other)[0], 'yes')
        trees = [('rule', 0, [((('above', 'a', 'b'),), ('held', 2, 0))])] * 2
        one = Book(FLAT, [(A, B)], [(B, A)])
        self.assertTrue(shows_implied(one, Book(FLAT, [(A, B)], []), ('yes', [('rule', 0, [((('above', 'a', 'b'),), ('held', 1, 0))])])))
        self.assertFalse(shows_implied(one, Book(FLAT, [(A, B)], []), ('yes', [('rule', 0, [((('above', 'a', 'b'),), ('held', 0, 0))])])))
        self.assertTrue(shows_implied(one, Book(FLAT, [], [(B, A)]), ('yes', [('rule', 1, [((('above', 'b', 'a'),), ('held', 0, 0))])])))
        self.assertFalse(shows_implied(one, Book(FLAT, [], [(B, A)]), ('yes', trees[:1])))

    def test_papers_with_a_part_otherwise(self):
        rng = random.Random(28)
        for _ in range(150):
            signs = Signs(rng.choice(papers.KINDS))
            one, other = papers.drawn_book(rng, signs, 2), papers.drawn_book(rng, signs, 2)
            facts = papers.drawn_facts(rng, signs)
            told = implied(one, other, facts=facts)
            if len(repr(told)) < 300:
                for value in changed(told):
                    right = papers.implied_shown(one, other, facts, value)
                    self.assertIs(shows_implied(one, other, value, facts=facts), right, value)

    def test_every_order_as_a_paper(self):
        rng = random.Random(29)
        for _ in range(60):
            signs = Signs(rng.choice(papers.KINDS))
            one, other = papers.drawn_book(rng, signs, 2), papers.drawn_book(rng, signs, 2)
            facts = papers.drawn_facts(rng, signs)
            apart = papers.serving(one, facts)
            for order in papers.orders_of(signs):
                right = order in apart and not papers.serves(order, other)
                self.assertIs(shows_implied(one, other, ('no', order), facts=facts), right)

    def test_values_of_many_forms(self):
        one, other = Book(FLAT, [(A, B)], []), Book(FLAT, [(A, B)], [])
        for value in ODD:
            for odd in (value, ('yes', value), ('no', value), (value, []), (value, value), ('yes', [value]), ['yes', value]):
                self.assertIs(shows_implied(one, other, odd), False)

    def test_signs_first_then_facts(self):
        one, other = Book(FLAT, [(A, B)], []), Book(SIGNS, [], [])
        turned = Book(Signs([('b', 0), ('a', 0), ('c', 0)]), [], [])
        for call in (lambda book, facts: implied(one, book, facts=facts),
                     lambda book, facts: shows_implied(one, book, None, facts=facts)):
            for book in (other, turned):
                raised(self, Unlike, call, book, ())
                raised(self, Unlike, call, book, None)
            raised(self, NoTuple, call, one, None)
            for value in ODD:
                if not isinstance(value, tuple):
                    raised(self, NoTuple, call, one, value)
                self.assertEqual(raised(self, BadFact, call, one, (value, value)).number, 0)
        with self.assertRaises(TypeError):
            implied(one, one, ())


if __name__ == '__main__':
    unittest.main()
