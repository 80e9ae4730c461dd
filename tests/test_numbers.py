"""Point 16: the orders that fit facts and serve a book, by numbers."""

import inspect
import random
import unittest

import papers
from shutbyrings.books import Book
from shutbyrings.errors import BadFact, Misfit, NoOrder, NoTuple
from shutbyrings.numbers import all_orders, at_number, how_many, number_of
from shutbyrings.orders import Order
from shutbyrings.terms import Signs
from values import ODD

SIGNS = Signs([('f', 2), ('g', 1), ('a', 0)])
FLAT = Signs([('c', 0), ('a', 0), ('b', 0)])
A, B, C = ('a',), ('b',), ('c',)
RING = (('above', 'a', 'b'), ('above', 'b', 'c'), ('above', 'c', 'a'))


def raised(self, kind, call, *given, **named):
    with self.assertRaises(kind) as caught:
        call(*given, **named)
    return caught.exception


class Numbers(unittest.TestCase):
    def test_rows_in_the_order_of_the_signs(self):
        told = [order.names for order in all_orders(Book(FLAT, [], []))]
        self.assertEqual(told, [['c', 'a', 'b'], ['c', 'b', 'a'], ['a', 'c', 'b'], ['a', 'b', 'c'], ['b', 'c', 'a'], ['b', 'a', 'c']])

    def test_lists_of_lots_in_their_order(self):
        signs = Signs([('h', 3), ('g', 2), ('f', 2)])
        told = [order.lots for order in all_orders(Book(signs, [], []))]
        self.assertEqual(told[:8], [[], ['f'], ['f', 'g'], ['f', 'g', 'h'], ['f', 'h'], ['g'], ['g', 'h'], ['h']])
        self.assertEqual(told, told[:8] * 6)

    def test_against_a_plain_trial(self):
        rng = random.Random(41)
        for _ in range(150):
            book = papers.drawn_book(rng)
            facts = papers.drawn_facts(rng, book.signs)
            right = papers.serving(book, facts)
            self.assertEqual(list(all_orders(book, facts=facts)), right)
            self.assertEqual(how_many(book, facts=facts), len(right))
            self.assertEqual([at_number(book, k, facts=facts) for k in range(len(right))], right)
            self.assertEqual([number_of(book, order, facts=facts) for order in right], list(range(len(right))))
            for order in papers.orders_of(book.signs):
                if order not in right:
                    raised(self, Misfit, number_of, book, order, facts=facts)

    def test_all_orders_of_larger_signs(self):
        for pairs in ([('h', 3), ('g', 2), ('f', 2), ('a', 0)], [('b', 1), ('a', 2), ('d', 2), ('c', 0)]):
            book = Book(Signs(pairs), [], [])
            right = papers.orders_of(book.signs)
            self.assertEqual(list(all_orders(book)), right)
            self.assertEqual([number_of(book, order) for order in right], list(range(len(right))))
        self.assertEqual(how_many(Book(Signs([('f', 3), ('g', 3), ('h', 3), ('k', 3), ('l', 3)]), [], [])), 3840)
        self.assertEqual(how_many(Book(Signs([('f', 1), ('g', 1), ('h', 1), ('k', 1), ('l', 1)]), [], [])), 120)

    def test_edges(self):
        for pairs, many in (([('a', 0)], 1), ([('f', 1)], 1), ([('f', 2)], 2), ([('f', 3), ('a', 0)], 4)):
            self.assertEqual(how_many(Book(Signs(pairs), [], [])), many)
        self.assertEqual(list(all_orders(Book(FLAT, [], []), facts=RING)), [])
        self.assertEqual(how_many(Book(FLAT, [(A, A)], [])), 0)
        self.assertEqual(how_many(Book(FLAT, [], []), facts=RING[:1] * 4), 3)
        self.assertEqual(how_many(book=Book(FLAT, [(A, B)], [(A, C)])), 1)

    def test_no_number_of_an_order(self):
        book = Book(FLAT, [(A, B)], [])
        self.assertEqual(at_number(book=book, number=2), Order(FLAT, ['a', 'b', 'c'], []))
        for value in ODD + [3, 6, -1, -3, [0], (0,), '0', True, False]:
            if type(value) is int and 0 <= value < 3:
                continue
            self.assertIs(raised(self, NoOrder, at_number, book, value).number, value)
        self.assertEqual(raised(self, NoOrder, at_number, book, 0, facts=(('above', 'b', 'a'),)).number, 0)
        self.assertEqual(raised(self, NoOrder, at_number, Book(FLAT, [(A, A)], []), 0).number, 0)

    def test_misfits(self):
        book = Book(FLAT, [(A, B)], [])
        raised(self, Misfit, number_of, book, Order(FLAT, ['b', 'a', 'c'], []))
        raised(self, Misfit, number_of, book, Order(FLAT, ['a', 'b', 'c'], []), facts=(('above', 'c', 'a'),))
        raised(self, Misfit, number_of, book, Order(SIGNS, ['f', 'g', 'a'], []))
        raised(self, Misfit, number_of, book, Order(Signs([('a', 0), ('b', 0), ('c', 0)]), ['a', 'b', 'c'], []))
        raised(self, Misfit, number_of, book, Order(Signs([('c', 0), ('a', 0), ('b', 1)]), ['a', 'b', 'c'], []))
        same = Signs([('c', 0), ('a', 0), ('b', 0)])
        self.assertEqual(number_of(book=book, order=Order(same, ['c', 'a', 'b'], [])), 0)

    def test_facts_first(self):
        book = Book(FLAT, [(A, B)], [])
        order = Order(SIGNS, ['f', 'g', 'a'], [])
        for call in (lambda facts: how_many(book, facts=facts), lambda facts: at_number(book, None, facts=facts),
                     lambda facts: number_of(book, order, facts=facts), lambda facts: list(all_orders(book, facts=facts))):
            for value in ODD:
                if not isinstance(value, tuple):
                    raised(self, NoTuple, call, value)
                self.assertEqual(raised(self, BadFact, call, RING + (value,)).number, 3)
        for call in (how_many, all_orders):
            with self.assertRaises(TypeError):
                call(book, ())


class Generator(unittest.TestCase):
    def test_raises_when_its_first_item_is_asked_for(self):
        book = Book(FLAT, [(A, B)], [])
        for facts, kind in ((None, NoTuple), ((1,), BadFact)):
            told = all_orders(book, facts=facts)
            self.assertTrue(inspect.isgenerator(told))
            with self.assertRaises(kind):
                next(told)

    def test_each_call_begins_anew(self):
        book = Book(FLAT, [(A, B)], [])
        one, other = all_orders(book), all_orders(book)
        self.assertEqual(next(one), at_number(book, 0))
        self.assertEqual(next(one), at_number(book, 1))
        self.assertEqual(next(other), at_number(book, 0))
        self.assertEqual(len(list(one)), 1)
        self.assertEqual(len(list(other)), 2)


if __name__ == '__main__':
    unittest.main()
