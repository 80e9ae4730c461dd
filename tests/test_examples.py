"""The examples of the interface, as they stand there."""

import unittest


class Examples(unittest.TestCase):
    def test_stage_1(self):
        from shutbyrings.terms import is_term, parts, put, Signs, size, variables
        signs = Signs([('plus', 2), ('s', 1), ('zero', 0)])
        term = ('plus', ('s', 'X'), ('zero',))
        self.assertEqual(
            [is_term(signs, term), is_term(signs, ('s',)), parts(term), variables(term), size(term), put(term, {'X': ('zero',)}), signs.ways],
            [True, False, [('plus', ('s', 'X'), ('zero',)), ('s', 'X'), 'X', ('zero',)], ['X'], 4, ('plus', ('s', ('zero',)), ('zero',)), ['plus']])

    def test_stage_2(self):
        from shutbyrings.orders import Order, steps
        from shutbyrings.terms import Signs
        signs = Signs([('plus', 2), ('s', 1)])
        order = Order(signs, ['plus', 's'], [])
        self.assertEqual(
            [order(('plus', ('s', 'X'), 'Y'), ('s', 'X')), steps(order, ('s', 'X'), 'X'), steps(order, ('s', 'X'), ('s', 'Y')), order.facts],
            [True, ('part', 0, None), None, (('above', 'plus', 's'), ('left', 'plus'))])

    def test_stage_3_needs(self):
        from shutbyrings.facts import clash, needs
        from shutbyrings.terms import Signs
        signs = Signs([('plus', 2), ('s', 1)])
        self.assertEqual(
            needs(signs, ('plus', ('s', 'X'), 'Y'), ('s', ('plus', 'X', 'Y'))),
            [(('above', 'plus', 's'), ('left', 'plus')), (('above', 'plus', 's'), ('lots', 'plus'))])
        self.assertIsNone(clash(signs, ()))

    def test_stage_3_clash(self):
        from shutbyrings.facts import clash, needs
        from shutbyrings.terms import Signs
        signs = Signs([('f', 2), ('a', 0)])
        self.assertEqual(
            [needs(signs, ('f', 'X', 'Y'), ('f', 'Y', 'X')), needs(signs, ('f', 'X', 'Y'), 'Y'), clash(signs, (('left', 'f'), ('lots', 'f')))],
            [[], [()], ('ways', 'f')])


if __name__ == '__main__':
    unittest.main()
