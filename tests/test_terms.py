"""Points 3 and 4: signs, variables, terms and parts."""

import unittest

import plain
from shutbyrings.errors import BadCount, BadSign, NoList, NoSign
from shutbyrings.orders import Order
from shutbyrings.terms import Signs, is_term, parts, put, size, variables
from values import ODD, nested

X, A = 'X', ('a',)


class MakingSigns(unittest.TestCase):
    def bad_sign(self, pairs):
        with self.assertRaises(BadSign) as caught:
            Signs(pairs)
        return caught.exception.number

    def test_made(self):
        signs = Signs([('plus', 2), ('s', 1), ('zero', 0), ('abcdefgh', 3)])
        self.assertEqual(signs.names, ['plus', 's', 'zero', 'abcdefgh'])
        self.assertEqual(signs.ways, ['abcdefgh', 'plus'])
        self.assertEqual([signs.arity(name) for name in signs.names], [2, 1, 0, 3])
        self.assertEqual(len(signs), 4)

    def test_one_and_five(self):
        self.assertEqual(Signs([('z', 0)]).names, ['z'])
        self.assertEqual(Signs([('z', 0)]).ways, [])
        self.assertEqual(len(Signs([(name, 3) for name in 'edcba'])), 5)
        self.assertEqual(Signs([(name, 3) for name in 'edcba']).ways, list('abcde'))

    def test_by_name(self):
        signs = Signs(pairs=[('f', 1)])
        self.assertEqual(signs.arity(name='f'), 1)

    def test_no_list(self):
        for value in ODD + [(('f', 1),), {'f': 1}, 'f']:
            if not isinstance(value, list):
                with self.assertRaises(NoList):
                    Signs(value)

    def test_bad_count(self):
        for value in ([], [None] * 6, [('a', 0)] * 6, [(name, 0) for name in 'abcdef'], [0] * 10000):
            with self.assertRaises(BadCount):
                Signs(value)

    def test_bad_sign_of_any_value(self):
        for value in ODD:
            if value != ('a', 0):
                self.assertEqual(self.bad_sign([('b', 1), value]), 1)
                self.assertEqual(self.bad_sign([value, ('b', 1), None]), 0)

    def test_bad_names(self):
        for name in ('', 'A', 'Ab', 'aB', 'abcdefghi', 'a1', 'a_', 'a b', ' a', 'a\n', '\u00e4', '\u03b1', 1, None, True,
                     ('a',), ['a'], b'a'):
            self.assertEqual(self.bad_sign([('g', 1), ('h', 1), (name, 1)]), 2, name)

    def test_bad_arities(self):
        for arity in (-1, 4, 10 ** 39, True, False, None, '1', 'a', (1,), [1], ()):
            self.assertEqual(self.bad_sign([('g', arity)]), 0, arity)

    def test_bad_shapes(self):
        for pair in (('a',), ('a', 1, 1), ('a', 1, None), ['a', 1], (), 'a1', ('a', 1).__iter__(), (1, 'a')):
            self.assertEqual(self.bad_sign([('g', 1), pair]), 1)

    def test_name_that_stands_earlier(self):
        self.assertEqual(self.bad_sign([('a', 0), ('b', 1), ('a', 0)]), 2)
        self.assertEqual(self.bad_sign([('a', 0), ('a', 1), ('a', 2)]), 1)

    def test_first_number_is_told(self):
        self.assertEqual(self.bad_sign([('a', 0), ('a', 1), None]), 1)
        self.assertEqual(self.bad_sign([('a', 0), None, ('a', 1)]), 1)
        self.assertEqual(self.bad_sign([('A', 0), ('b', 4)]), 0)

    def test_count_before_sign(self):
        with self.assertRaises(BadCount):
            Signs([('a', 9), None, None, None, None, None])

    def test_pairs_are_copied(self):
        pairs = [('f', 2), ('a', 0)]
        signs = Signs(pairs)
        pairs.append(('b', 0))
        pairs[0] = ('g', 1)
        self.assertEqual(signs.names, ['f', 'a'])
        self.assertEqual(signs.arity('f'), 2)


class AskingSigns(unittest.TestCase):
    def setUp(self):
        self.signs = Signs([('f', 2), ('g', 1), ('a', 0)])

    def test_lists_are_new(self):
        for _ in range(2):
            self.assertEqual(self.signs.names, ['f', 'g', 'a'])
            self.assertEqual(self.signs.ways, ['f'])
            self.signs.names.clear()
            self.signs.ways.append('g')

    def test_properties_are_not_assigned(self):
        for name in ('names', 'ways'):
            with self.assertRaises(AttributeError):
                setattr(self.signs, name, [])

    def test_no_sign(self):
        for value in ODD + ['F', 'X', 'fg', ('f',), ['f']]:
            if value not in ('f', 'a'):
                with self.assertRaises(NoSign) as caught:
                    self.signs.arity(value)
                self.assertIs(caught.exception.name, value)

    def test_contains(self):
        for name in ('f', 'g', 'a'):
            self.assertIs(name in self.signs, True)
        for value in ODD + ['F', 'X', 'fg', ('f',), ['f'], {}]:
            if value not in ('f', 'a'):
                self.assertIs(value in self.signs, False)

    def test_equal(self):
        self.assertTrue(self.signs == Signs([('f', 2), ('g', 1), ('a', 0)]))
        self.assertFalse(self.signs != Signs([('f', 2), ('g', 1), ('a', 0)]))
        for pairs in ([('g', 1), ('f', 2), ('a', 0)], [('f', 2), ('g', 1)], [('f', 2), ('g', 1), ('a', 1)],
                      [('f', 2), ('g', 1), ('b', 0)], [('f', 2), ('g', 1), ('a', 0), ('b', 0)]):
            self.assertFalse(self.signs == Signs(pairs))
            self.assertTrue(self.signs != Signs(pairs))

    def test_unequal_to_other_objects(self):
        for value in ODD + [[('f', 2), ('g', 1), ('a', 0)], self.signs.names]:
            self.assertFalse(self.signs == value)
            self.assertTrue(self.signs != value)


class Terms(unittest.TestCase):
    def setUp(self):
        self.signs = Signs([('f', 2), ('g', 1), ('a', 0), ('h', 3)])

    def test_terms(self):
        for value in ('X', 'ABCDEFGH', ('a',), ('g', 'X'), ('f', 'X', 'X'), ('f', ('a',), ('g', ('g', 'Y'))),
                      ('h', 'X', ('a',), ('h', 'X', 'Y', 'Z')), nested(30, lambda x: ('g', x)),
                      nested(5000, lambda x: ('g', x)), nested(3000, lambda x: ('f', 'Y', x))):
            self.assertIs(is_term(self.signs, value), True)

    def test_no_terms(self):
        for value in ('', 'x', 'Xx', 'ABCDEFGHI', 'X1', 'X Y', 'X\n', '\u00c4', 'a', 'f', (), ('X',), ('b',), ('a', 'X'),
                      ('g',), ('g', 'X', 'Y'), ('f', 'X'), ('f', 'X', 'Y', 'Z'), ('h', 'X', 'Y'), ['a'], ['g', 'X'],
                      ('g', ['a']), ('g', ('f', 'X')), ('f', 'X', 'y'), ('f', 'X', None), ('f', 1, 'X'), ('f', True, 'X'),
                      (('f',), 'X', 'Y'), (['f'], 'X', 'Y'), (None,), (0,), (True,), 1, 0, True, False, None, [], {}, 10 ** 39):
            self.assertIs(is_term(self.signs, value), False, value)

    def test_values_of_all_kinds_at_the_top_and_deep_inside(self):
        for value in ODD:
            told = value in ('X', ('a',), ('f', 'X', 'Y')) if not isinstance(value, (list, dict)) else False
            self.assertIs(is_term(self.signs, value), told)
            self.assertIs(is_term(self.signs, ('f', 'X', ('g', ('h', 'X', value, 'Y')))), told)
            deep = value
            for _ in range(2000):
                deep = ('f', 'X', deep)
            self.assertIs(is_term(self.signs, deep), told)

    def test_by_name(self):
        self.assertTrue(is_term(signs=self.signs, value='X'))
        self.assertEqual(parts(term='X'), ['X'])
        self.assertEqual(variables(term='X'), ['X'])
        self.assertEqual(size(term='X'), 1)
        self.assertEqual(put(term='X', given={'X': A}), A)

    def test_other_signs(self):
        self.assertFalse(is_term(Signs([('f', 3)]), ('f', 'X', 'Y')))
        self.assertTrue(is_term(Signs([('f', 3)]), ('f', 'X', 'Y', 'X')))


class Parts(unittest.TestCase):
    def test_parts_in_order_each_once(self):
        term = ('f', ('g', 'X'), ('f', ('g', 'X'), ('h', 'Y', ('a',), 'X')))
        self.assertEqual(parts(term), [
            term, ('g', 'X'), 'X', ('f', ('g', 'X'), ('h', 'Y', ('a',), 'X')), ('h', 'Y', ('a',), 'X'), 'Y', ('a',)])
        self.assertEqual(parts('X'), ['X'])
        self.assertEqual(parts(('a',)), [('a',)])
        self.assertEqual(parts(('f', 'Y', 'X')), [('f', 'Y', 'X'), 'Y', 'X'])
        self.assertEqual(parts(('f', ('g', 'Y'), 'Y')), [('f', ('g', 'Y'), 'Y'), ('g', 'Y'), 'Y'])
        self.assertEqual(parts(('f', 'Y', ('g', 'Y'))), [('f', 'Y', ('g', 'Y')), 'Y', ('g', 'Y')])

    def test_parts_as_written(self):
        def doubled(term):
            return [term] + [told for x in term[1:] for told in doubled(x)] if isinstance(term, tuple) else [term]
        signs = Signs([('f', 2), ('g', 1), ('a', 0)])
        for term in plain.terms_up_to(signs, ['Y', 'X'], 3):
            self.assertEqual(parts(term), list(dict.fromkeys(doubled(term))))
            self.assertEqual(size(term), len(doubled(term)))
            self.assertEqual(variables(term), sorted({x for x in doubled(term) if isinstance(x, str)}))

    def test_variables(self):
        self.assertEqual(variables(('h', 'Z', ('f', 'AB', 'Z'), ('g', 'B'))), ['AB', 'B', 'Z'])
        self.assertEqual(variables(('a',)), [])
        self.assertEqual(variables('X'), ['X'])

    def test_size(self):
        self.assertEqual(size('X'), 1)
        self.assertEqual(size(('a',)), 1)
        self.assertEqual(size(('f', ('g', 'X'), ('g', 'X'))), 5)

    def test_lists_are_new(self):
        term = ('f', 'X', 'Y')
        for _ in range(2):
            self.assertEqual(parts(term), [term, 'X', 'Y'])
            self.assertEqual(variables(term), ['X', 'Y'])
            parts(term).clear()
            variables(term).append('Z')

    def test_deep(self):
        deep = nested(5000, lambda x: ('g', x))
        self.assertEqual(len(parts(deep)), 5001)
        self.assertIs(parts(deep)[0], deep)
        self.assertEqual(variables(deep), ['X'])
        self.assertEqual(size(deep), 5001)


class Putting(unittest.TestCase):
    def test_put(self):
        term = ('f', ('g', 'X'), 'Y')
        self.assertEqual(put(term, {'X': A}), ('f', ('g', A), 'Y'))
        self.assertEqual(put(term, {'X': 'Y', 'Y': 'X'}), ('f', ('g', 'Y'), 'X'))
        self.assertEqual(put(term, {}), term)
        self.assertEqual(put(term, {'Z': A}), term)
        self.assertEqual(put('X', {'X': ('g', 'X')}), ('g', 'X'))
        self.assertEqual(put('X', {'Y': A}), 'X')
        self.assertEqual(put(A, {'X': A}), A)
        self.assertEqual(put(('f', 'X', 'X'), {'X': ('f', 'X', 'Y'), 'Y': A}), ('f', ('f', 'X', 'Y'), ('f', 'X', 'Y')))

    def test_given_is_left_as_it_is(self):
        given = {'X': ('g', 'Y'), 'Z': A}
        put(('f', 'X', 'Y'), given)
        self.assertEqual(given, {'X': ('g', 'Y'), 'Z': A})

    def test_later_changes_have_no_effect(self):
        given = {'X': A}
        told = put(('g', 'X'), given)
        given['X'] = 'Y'
        self.assertEqual(told, ('g', A))

    def test_told_terms_are_handed_on(self):
        told = 'X'
        for _ in range(5000):
            told = put(('g', 'X'), {'X': told})
        self.assertEqual(size(told), 5001)
        told = put(told, {'X': A})
        self.assertEqual(variables(told), [])
        self.assertTrue(is_term(Signs([('g', 1), ('a', 0)]), told))
        self.assertTrue(Order(Signs([('g', 1), ('a', 0)]), ['g', 'a'], [])(told, A))


if __name__ == '__main__':
    unittest.main()
