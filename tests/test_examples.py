"""The examples of the interface, as they stand there."""

import unittest


class Examples(unittest.TestCase):
    def test_stage_1(self):
        from shutbyrings.terms import is_term, parts, put, Signs, size, variables
        signs = Signs([('plus', 2), ('s', 1), ('zero', 0)])
        term = ('plus', ('s', 'X'), ('zero',))
        self.assertEqual(
            [is_term(signs, term), is_term(signs, ('s',)), parts(term), variables(term), size(term), put(term, {'X': ('zero',)}), signs.ways],
            [True, False, [('plus', ('s', 'X'), ('zero',)), ('s', 'X'), 'X', ('zero',)], ['X'], 4, ('plus', ('s', ('zero',)), ('zero',)), ['plus']])

    def test_stage_2(self):
        from shutbyrings.orders import Order, steps
        from shutbyrings.terms import Signs
        signs = Signs([('plus', 2), ('s', 1)])
        order = Order(signs, ['plus', 's'], [])
        self.assertEqual(
            [order(('plus', ('s', 'X'), 'Y'), ('s', 'X')), steps(order, ('s', 'X'), 'X'), steps(order, ('s', 'X'), ('s', 'Y')), order.facts],
            [True, ('part', 0, None), None, (('above', 'plus', 's'), ('left', 'plus'))])

    def test_stage_3_needs(self):
        from shutbyrings.facts import clash, needs
        from shutbyrings.terms import Signs
        signs = Signs([('plus', 2), ('s', 1)])
        self.assertEqual(
            needs(signs, ('plus', ('s', 'X'), 'Y'), ('s', ('plus', 'X', 'Y'))),
            [(('above', 'plus', 's'), ('left', 'plus')), (('above', 'plus', 's'), ('lots', 'plus'))])
        self.assertIsNone(clash(signs, ()))

    def test_stage_3_clash(self):
        from shutbyrings.facts import clash, needs
        from shutbyrings.terms import Signs
        signs = Signs([('f', 2), ('a', 0)])
        self.assertEqual(
            [needs(signs, ('f', 'X', 'Y'), ('f', 'Y', 'X')), needs(signs, ('f', 'X', 'Y'), 'Y'), clash(signs, (('left', 'f'), ('lots', 'f')))],
            [[], [()], ('ways', 'f')])

    def test_stage_4(self):
        from shutbyrings.books import Book, verdict
        from shutbyrings.terms import Signs
        signs = Signs([('a', 0), ('b', 0)])
        book = Book(signs, [(('a',), ('b',))], [])
        self.assertEqual(
            [verdict(book)[1].names, verdict(book, facts=(('above', 'b', 'a'),))[0], verdict(Book(signs, [], [(('a',), ('b',)), (('b',), ('a',))]))[0]],
            [['a', 'b'], 'no', 'no'])

    def test_stage_5(self):
        from shutbyrings.books import Book
        from shutbyrings.compared import compared, implied, sure
        from shutbyrings.terms import Signs
        signs = Signs([('a', 0), ('b', 0)])
        told = compared(signs, ('a',), ('b',))
        self.assertEqual(
            [told[0], told[1].names, told[2].names, compared(signs, ('a',), ('b',), facts=(('above', 'a', 'b'),))[0], sure(Book(signs, [(('a',), ('b',))], [])), implied(Book(signs, [(('a',), ('b',))], []), Book(signs, [], [(('b',), ('a',))]))[0]],
            ['open', ['a', 'b'], ['b', 'a'], 'always', [('above', 'a', 'b')], 'yes'])

    def test_stage_6(self):
        from shutbyrings.books import Book
        from shutbyrings.least import forcing, least_drop, turns
        from shutbyrings.terms import Signs
        signs = Signs([('a', 0), ('b', 0)])
        book = Book(signs, [(('a',), ('b',)), (('b',), ('a',))], [])
        self.assertEqual(
            [len(least_drop(book)[1]), turns(book)[:2], forcing(Book(signs, [(('a',), ('b',))], []))[1]],
            [1, ('yes', [0]), (('above', 'a', 'b'),)])

    def test_stage_7(self):
        from shutbyrings.books import Book
        from shutbyrings.numbers import at_number, how_many
        from shutbyrings.terms import Signs
        signs = Signs([('f', 2), ('a', 0)])
        book = Book(signs, [(('f', 'X', 'Y'), 'X')], [])
        self.assertEqual(
            [how_many(book), at_number(book, 1).names, at_number(book, 1).lots, at_number(book, 2).names],
            [4, ['f', 'a'], ['f'], ['a', 'f']])


if __name__ == '__main__':
    unittest.main()
