"""The examples of the interface, as they stand there."""

import unittest


class Examples(unittest.TestCase):
    def test_stage_1(self):
        from shutbyrings.terms import is_term, parts, put, Signs, size, variables
        signs = Signs([('plus', 2), ('s', 1), ('zero', 0)])
        term = ('plus', ('s', 'X'), ('zero',))
        self.assertEqual(
            [is_term(signs, term), is_term(signs, ('s',)), parts(term), variables(term), size(term), put(term, {'X': ('zero',)}), signs.ways],
            [True, False, [('plus', ('s', 'X'), ('zero',)), ('s', 'X'), 'X', ('zero',)], ['X'], 4, ('plus', ('s', ('zero',)), ('zero',)), ['plus']])

    def test_stage_2(self):
        from shutbyrings.orders import Order, steps
        from shutbyrings.terms import Signs
        signs = Signs([('plus', 2), ('s', 1)])
        order = Order(signs, ['plus', 's'], [])
        self.assertEqual(
            [order(('plus', ('s', 'X'), 'Y'), ('s', 'X')), steps(order, ('s', 'X'), 'X'), steps(order, ('s', 'X'), ('s', 'Y')), order.facts],
            [True, ('part', 0, None), None, (('above', 'plus', 's'), ('left', 'plus'))])

    def test_stage_3_needs(self):
        from shutbyrings.facts import clash, needs
        from shutbyrings.terms import Signs
        signs = Signs([('plus', 2), ('s', 1)])
        self.assertEqual(
            needs(signs, ('plus', ('s', 'X'), 'Y'), ('s', ('plus', 'X', 'Y'))),
            [(('above', 'plus', 's'), ('left', 'plus')), (('above', 'plus', 's'), ('lots', 'plus'))])
        self.assertIsNone(clash(signs, ()))

    def test_stage_3_clash(self):
        from shutbyrings.facts import clash, needs
        from shutbyrings.terms import Signs
        signs = Signs([('f', 2), ('a', 0)])
        self.assertEqual(
            [needs(signs, ('f', 'X', 'Y'), ('f', 'Y', 'X')), needs(signs, ('f', 'X', 'Y'), 'Y'), clash(signs, (('left', 'f'), ('lots', 'f')))],
            [[], [()], ('ways', 'f')])

    def test_stage_4(self):
        from shutbyrings.books import Book, verdict
        from shutbyrings.terms import Signs
        signs = Signs([('a', 0), ('b', 0)])
        book = Book(signs, [(('a',), ('b',))], [])
        self.assertEqual(
            [verdict(book)[1].names, verdict(book, facts=(('above', 'b', 'a'),))[0], verdict(Book(signs, [], [(('a',), ('b',)), (('b',), ('a',))]))[0]],
            [['a', 'b'], 'no', 'no'])

    def test_stage_5(self):
        from shutbyrings.books import Book
        from shutbyrings.compared import compared, implied, sure
        from shutbyrings.terms import Signs
        signs = Signs([('a', 0), ('b', 0)])
        told = compared(signs, ('a',), ('b',))
        self.assertEqual(
            [told[0], told[1].names, told[2].names, compared(signs, ('a',), ('b',), facts=(('above', 'a', 'b'),))[0], sure(Book(signs, [(('a',), ('b',))], [])), implied(Book(signs, [(('a',), ('b',))], []), Book(signs, [], [(('b',), ('a',))]))[0]],
            ['open', ['a', 'b'], ['b', 'a'], 'always', [('above', 'a', 'b')], 'yes'])

    def test_stage_6(self):
        from shutbyrings.books import Book
        from shutbyrings.least import forcing, least_drop, turns
        from shutbyrings.terms import Signs
        signs = Signs([('a', 0), ('b', 0)])
        book = Book(signs, [(('a',), ('b',)), (('b',), ('a',))], [])
        self.assertEqual(
            [len(least_drop(book)[1]), turns(book)[:2], forcing(Book(signs, [(('a',), ('b',))], []))[1]],
            [1, ('yes', [0]), (('above', 'a', 'b'),)])

    def test_stage_7(self):
        from shutbyrings.books import Book
        from shutbyrings.numbers import at_number, how_many
        from shutbyrings.terms import Signs
        signs = Signs([('f', 2), ('a', 0)])
        book = Book(signs, [(('f', 'X', 'Y'), 'X')], [])
        self.assertEqual(
            [how_many(book), at_number(book, 1).names, at_number(book, 1).lots, at_number(book, 2).names],
            [4, ['f', 'a'], ['f'], ['a', 'f']])

    def test_stage_8(self):
        from shutbyrings.books import Book
        from shutbyrings.falls import longest_fall, next_steps
        from shutbyrings.terms import Signs
        signs = Signs([('s', 1), ('zero', 0)])
        book = Book(signs, [(('s', 'X'), 'X')], [])
        self.assertEqual(
            [next_steps(book, ('s', ('s', ('zero',)))), len(longest_fall(book, ('s', ('s', ('zero',))))[0])],
            [[((), 0, ('s', ('zero',))), ((0,), 0, ('s', ('zero',)))], 2])

    def test_stage_9(self):
        from shutbyrings.numbers import all_orders
        from shutbyrings.terms import Signs
        from shutbyrings.told import book_seen, parting
        signs = Signs([('a', 0), ('b', 0), ('c', 0)])
        book = book_seen(signs, [(('a',), ('b',), True), (('a',), ('c',), False)])
        self.assertEqual(
            [book.rules, book.barred, [order.names for order in all_orders(book)], parting(book, [('a',), ('b',), ('c',)])],
            [[(('a',), ('b',))], [(('a',), ('c',))], [['c', 'a', 'b']], None])

    def test_stage_10(self):
        from shutbyrings.leads import Lead
        from shutbyrings.terms import Signs
        lead = Lead(Signs([('a', 0), ('b', 0)]))
        first, fresh = lead.put((('a',), ('b',))), lead.claim(('above', 'b', 'a'))
        self.assertEqual(
            [first, fresh, lead.numbers, lead.facts, lead.verdict()[0]],
            [0, True, [0], (('above', 'b', 'a'),), 'no'])

    def test_stage_11(self):
        from shutbyrings.terms import Signs
        from shutbyrings.texts import read_book, read_term, show_term
        signs = Signs([('plus', 2), ('s', 1)])
        self.assertEqual(
            [show_term(signs, ('plus', ('s', 'X'), 'Y')), read_term(signs, 's(plus(X, Y))'), read_book('sign a 0\nsign b 0\nrule a -> b').rules],
            ['plus(s(X), Y)', ('s', ('plus', 'X', 'Y')), [(('a',), ('b',))]])

    def test_stage_11_wrong(self):
        from shutbyrings.errors import BadText
        from shutbyrings.texts import read_book
        with self.assertRaises(BadText) as caught:
            read_book('sign a 0\nrule a -> b')
        self.assertEqual(caught.exception.line, 2)


if __name__ == '__main__':
    unittest.main()
