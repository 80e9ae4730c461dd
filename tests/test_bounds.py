"""Points 3 and 22: inputs at the bounds and somewhat beyond, and calls that change nothing."""

import random
import unittest

import plain
from shutbyrings.errors import BadNames, BadTerm, RingError
from shutbyrings.facts import clash, fits, follows, needs, order_of, shows_clash
from shutbyrings.orders import Order, shows_steps, steps
from shutbyrings.terms import Signs, is_term, parts, put, size, variables
from values import nested

KINDS = [
    [('f', 2), ('g', 2), ('h', 2), ('k', 2), ('a', 0)], [('f', 3), ('g', 3), ('h', 3), ('k', 3), ('l', 3)],
    [('f', 3), ('g', 2), ('h', 1), ('k', 2), ('a', 0)], [('f', 2), ('a', 0), ('b', 0), ('c', 0), ('d', 0)],
    [('f', 1), ('g', 1), ('h', 1), ('k', 1), ('a', 0)],
]


def large(rng, signs, names, levels, most):
    """A term with about as many signs and variables as are allowed."""
    low = list(names) + [(f,) for f in signs.names if signs.arity(f) == 0]
    high = [f for f in signs.names if 0 < signs.arity(f) < most]
    if levels == 1 or not high:
        return rng.choice(low)
    f = rng.choice(high)
    shares = [1] * signs.arity(f)
    for _ in range(most - 1 - len(shares)):
        shares[rng.randrange(len(shares))] += 1
    return (f, *[large(rng, signs, names, levels - 1, share) for share in shares])


class Bounds(unittest.TestCase):
    def check(self, signs, orders, rng, s, t):
        told = needs(signs, s, t)
        for order in rng.sample(orders, min(12, len(orders))):
            way = steps(order, s, t)
            self.assertEqual(order(s, t), any(fits(order, one) for one in told))
            self.assertEqual(way is not None, order(s, t))
            self.assertEqual(shows_steps(order, s, t, way), order(s, t))

    def test_large_terms_over_five_signs(self):
        rng = random.Random(3)
        for pairs in KINDS:
            signs = Signs(pairs)
            orders = list(plain.all_orders(signs))
            for _ in range(25):
                s, t = [large(rng, signs, ['X', 'Y'], 6, 30) for _ in range(2)]
                self.assertLessEqual(size(s), 30)
                self.check(signs, orders, rng, s, t)
                small = large(rng, signs, ['X', 'Y'], 3, 8)
                self.check(signs, orders, rng, s, small)
                self.check(signs, orders, rng, s, put(small, {'X': rng.choice(parts(s)), 'Y': rng.choice(parts(s))}))

    def test_somewhat_beyond(self):
        rng = random.Random(4)
        signs = Signs(KINDS[2])
        orders = list(plain.all_orders(signs))
        for _ in range(5):
            s = large(rng, signs, ['X', 'Y'], 8, 60)
            t = large(rng, signs, ['X', 'Y'], 7, 40)
            self.check(signs, orders, rng, s, t)

    def test_told_terms_handed_on(self):
        signs = Signs([('f', 2), ('g', 1), ('a', 0)])
        order = Order(signs, ['f', 'g', 'a'], [])
        s, t = ('f', ('g', 'X'), 'Y'), ('f', 'X', ('g', 'Y'))
        for _ in range(6):
            s, t = put(s, {'X': s}), put(t, {'X': t})
        self.assertTrue(is_term(signs, s))
        self.assertEqual(order(s, t), any(fits(order, one) for one in needs(signs, s, t)))

    def test_deep_terms_in_all_that_takes_terms(self):
        signs = Signs([('g', 1), ('a', 0), ('b', 0)])
        order = Order(signs, ['a', 'b', 'g'], [])
        deep = nested(2000, lambda x: ('g', x))
        self.assertEqual(needs(signs, deep, 'X'), [()])
        self.assertEqual(needs(signs, deep, 'Y'), [])
        self.assertEqual(needs(signs, 'X', deep), [])
        self.assertFalse(order('X', deep))
        self.assertEqual((size(deep), variables(deep)), (2001, ['X']))
        self.assertTrue(order(put(deep, {'X': ('a',)}), ('b',)))
        s, t = put(nested(60, lambda x: ('g', x)), {'X': ('a',)}), put(nested(60, lambda x: ('g', x)), {'X': ('b',)})
        self.assertTrue(order(s, t))
        self.assertFalse(order(t, s))
        self.assertEqual(needs(signs, s, t), [(('above', 'a', 'b'),)])
        for value in (('g', deep, 'X'), ('g', put(deep, {'X': ('c',)}))):
            with self.assertRaises(BadTerm) as caught:
                order(deep, value)
            self.assertIs(caught.exception.value, value)

    def test_many_facts(self):
        signs = Signs(KINDS[1])
        order = Order(signs, signs.names, ['g'])
        facts = order.facts * 200
        self.assertIsNone(clash(signs, facts))
        self.assertTrue(fits(order, facts))
        self.assertEqual(order_of(signs, facts), order)
        facts = facts + (('above', 'l', 'f'),)
        self.assertTrue(shows_clash(signs, facts, clash(signs, facts)))
        self.assertTrue(follows(facts, ('above', 'l', 'k')))


class NothingChanges(unittest.TestCase):
    def test_a_call_that_raises_changes_nothing(self):
        signs = Signs([('f', 2), ('a', 0)])
        order = Order(signs, ['f', 'a'], ['f'])
        calls = [lambda: signs.arity('x'), lambda: Order(signs, ['a', 'f', 'x'], []), lambda: Order(signs, ['a', 'f'], ['a']),
                 lambda: order('x', 'X'), lambda: steps(order, 'X', 'x'), lambda: clash(signs, ('x',)), lambda: fits(order, 1),
                 lambda: order_of(signs, (('above', 'f', 'a'), ('above', 'a', 'f'))), lambda: needs(signs, ('f',), 'X')]
        for call in calls:
            with self.assertRaises(RingError):
                call()
            self.assertEqual((signs.names, signs.ways, signs.arity('f')), (['f', 'a'], ['f'], 2))
            self.assertEqual((order.names, order.lots), (['f', 'a'], ['f']))
            self.assertTrue(order(('f', 'X', 'Y'), ('a',)))

    def test_lists_handed_in_are_left_as_they_are(self):
        pairs, names, lots = [('f', 2), ('a', 0)], ['f', 'a'], ['f']
        order = Order(Signs(pairs), names, lots)
        order(('f', 'X', 'Y'), 'X')
        value = ('sign', [('part', 0, None)])
        shows_steps(order, ('f', 'X', 'Y'), ('a',), value)
        ring = ('ring', ['f', 'a'])
        shows_clash(order.signs, order.facts, ring)
        self.assertEqual((pairs, names, lots), ([('f', 2), ('a', 0)], ['f', 'a'], ['f']))
        self.assertEqual((value, ring), (('sign', [('part', 0, None)]), ('ring', ['f', 'a'])))

    def test_same_question_same_answer(self):
        signs = Signs([('f', 3), ('g', 2), ('a', 0)])
        facts = (('above', 'f', 'a'), ('above', 'a', 'g'), ('above', 'g', 'f'), ('left', 'f'), ('lots', 'f'))
        for _ in range(3):
            self.assertEqual(clash(signs, facts), clash(Signs([('f', 3), ('g', 2), ('a', 0)]), facts))
            self.assertEqual(order_of(signs, facts[1:4]), order_of(signs, facts[1:4]))

    def test_names_before_lots(self):
        with self.assertRaises(BadNames):
            Order(Signs([('f', 2)]), [], ['x'])


if __name__ == '__main__':
    unittest.main()
