"""Points 7 and 8, and point 9 as far as orders go."""

import random
import unittest
from itertools import combinations, permutations

import plain
from shutbyrings.errors import BadFact, BadTerm, NotPossible, NoTuple
from shutbyrings.facts import clash, fits, follows, is_fact, needs, opposite, order_of, shows_clash
from shutbyrings.orders import Order
from shutbyrings.terms import Signs, is_term
from values import ODD, changed

SIGNS = Signs([('f', 2), ('g', 1), ('a', 0)])
A, B = ('a',), ('b',)


class Facts(unittest.TestCase):
    def test_facts(self):
        signs = Signs([('f', 2), ('h', 3), ('g', 1), ('a', 0)])
        for fact in (('above', 'f', 'g'), ('above', 'a', 'h'), ('left', 'f'), ('lots', 'f'), ('left', 'h'), ('lots', 'h')):
            self.assertIs(is_fact(signs, fact), True)
        self.assertEqual(len(plain.all_facts(signs)), 16)
        self.assertTrue(all(is_fact(signs, fact) for fact in plain.all_facts(signs)))

    def test_no_facts(self):
        for value in (('above', 'f', 'f'), ('above', 'f', 'x'), ('above', 'x', 'f'), ('above', 'f'), ('above', 'f', 'g', 'a'),
                      ['above', 'f', 'g'], ('left', 'g'), ('lots', 'a'), ('left', 'x'), ('left',), ('left', 'f', 'f'),
                      ['left', 'f'], ('way', 'f'), ('above', ['f'], 'g'), ('above', 'f', ['g']), ('left', ['f']),
                      (['left'], 'f'), (['above'], 'f', 'g'), 'left', ('below', 'f', 'g'), (), ('above', None, 'f'),
                      ('left', 'f', None), ('left', 'f', 'g'), ('above', 'f', 2), (True, 'f'), ('Left', 'f')):
            self.assertIs(is_fact(SIGNS, value), False, value)

    def test_values_of_all_kinds(self):
        facts = (('above', 'f', 'a'), ('left', 'f'))
        for value in ODD:
            self.assertIs(is_fact(SIGNS, value), isinstance(value, tuple) and len(value) < 4 and value in facts)
            for odd in (('above', 'f', value), ('above', value, 'a'), (value, 'f', 'g'), (value, 'f'), ('left', value)):
                told = odd in plain.all_facts(SIGNS) if isinstance(value, str) else False
                self.assertIs(is_fact(SIGNS, odd), told)

    def test_signs_with_the_names_of_words(self):
        signs = Signs([('left', 2), ('lots', 3), ('above', 0)])
        for fact in (('left', 'left'), ('lots', 'left'), ('above', 'above', 'lots')):
            self.assertTrue(is_fact(signs, fact))
        self.assertFalse(is_fact(signs, ('left', 'above')))
        self.assertEqual(clash(signs, (('left', 'lots'), ('lots', 'lots'))), ('ways', 'lots'))

    def test_opposite(self):
        self.assertEqual(opposite(('above', 'f', 'g')), ('above', 'g', 'f'))
        self.assertEqual(opposite(('left', 'f')), ('lots', 'f'))
        self.assertEqual(opposite(fact=('lots', 'f')), ('left', 'f'))

    def test_opposite_holds_exactly_if_the_fact_does_not(self):
        for order in plain.all_orders(SIGNS):
            for fact in plain.all_facts(SIGNS):
                self.assertEqual(opposite(fact) in order.facts, fact not in order.facts)
                self.assertEqual(opposite(opposite(fact)), fact)


class Following(unittest.TestCase):
    CHAIN = (('above', 'b', 'c'), ('left', 'f'), ('above', 'a', 'b'), ('above', 'c', 'd'), ('above', 'b', 'c'))

    def test_one_of_them(self):
        for fact in self.CHAIN:
            self.assertIs(follows(self.CHAIN, fact), True)
        self.assertIs(follows((), ('left', 'f')), False)
        self.assertIs(follows((), ('above', 'a', 'b')), False)

    def test_by_chains(self):
        for f, g in (('a', 'c'), ('a', 'd'), ('b', 'd')):
            self.assertIs(follows(self.CHAIN, ('above', f, g)), True)
            self.assertIs(follows(self.CHAIN, ('above', g, f)), False)
        self.assertIs(follows(self.CHAIN, ('above', 'a', 'e')), False)
        self.assertIs(follows(self.CHAIN, ('above', 'e', 'a')), False)

    def test_ways_do_not_follow_from_others(self):
        self.assertIs(follows(self.CHAIN, ('lots', 'f')), False)
        self.assertIs(follows((('left', 'f'), ('lots', 'f')), ('lots', 'f')), True)
        self.assertIs(follows((('left', 'f'), ('lots', 'f')), ('left', 'g')), False)

    def test_facts_that_are_not_possible(self):
        ring = (('above', 'a', 'b'), ('above', 'b', 'c'), ('above', 'c', 'a'))
        for f, g in permutations('abc', 2):
            self.assertIs(follows(facts=ring, fact=('above', f, g)), True)
        self.assertIs(follows(ring, ('above', 'a', 'd')), False)
        self.assertIs(follows((('above', 'a', 'b'), ('above', 'b', 'a')), ('left', 'f')), False)

    def test_what_follows_holds_in_all_orders_that_fit(self):
        signs = Signs([('f', 2), ('b', 0), ('c', 1)])
        orders = list(plain.all_orders(signs))
        for many in range(4):
            for facts in combinations(plain.all_facts(signs), many):
                fit = [order.facts for order in orders if set(facts) <= set(order.facts)]
                if fit:
                    sure = [fact for fact in plain.all_facts(signs) if all(fact in told for told in fit)]
                    self.assertEqual([fact for fact in plain.all_facts(signs) if follows(facts, fact)], sure)


class Clashes(unittest.TestCase):
    def test_ring(self):
        facts = (('above', 'f', 'g'), ('above', 'g', 'a'), ('above', 'a', 'f'))
        told = clash(SIGNS, facts)
        self.assertEqual(told[0], 'ring')
        self.assertEqual(sorted(told[1]), ['a', 'f', 'g'])
        self.assertTrue(shows_clash(SIGNS, facts, told))
        for ring in (['f', 'g', 'a'], ['g', 'a', 'f'], ['a', 'f', 'g'], ['f', 'g', 'a', 'f', 'g', 'a'], ['f', 'g', 'a'] * 50):
            self.assertIs(shows_clash(SIGNS, facts, ('ring', ring)), True)
        for ring in (['f', 'a', 'g'], ['f', 'g'], ['f'], [], ['f', 'g', 'a', 'f'], ['f', 'g', 'a', 'a'], ['f', 'f'],
                     ['f', 'g', 'x'], ['f', 'g', None], ['f', 'g', ['a']], [['f', 'g', 'a']], ('f', 'g', 'a'), 'fga', None):
            self.assertIs(shows_clash(SIGNS, facts, ('ring', ring)), False, ring)

    def test_ring_of_two_and_a_sign_more_than_once(self):
        facts = (('above', 'f', 'g'), ('above', 'g', 'f'), ('above', 'g', 'a'), ('above', 'a', 'g'))
        for ring in (['f', 'g'], ['g', 'f'], ['a', 'g'], ['f', 'g', 'a', 'g'], ['g', 'a', 'g', 'f'], ['f', 'g'] * 2):
            self.assertIs(shows_clash(SIGNS, facts, ('ring', ring)), True)
        for ring in (['f', 'a'], ['f', 'g', 'a'], ['f', 'g', 'f'], ['g']):
            self.assertIs(shows_clash(SIGNS, facts, ('ring', ring)), False)
        self.assertEqual(sorted(clash(SIGNS, facts[:2])[1]), ['f', 'g'])

    def test_ways(self):
        facts = (('left', 'f'), ('above', 'f', 'g'), ('lots', 'f'))
        self.assertEqual(clash(SIGNS, facts), ('ways', 'f'))
        self.assertIs(shows_clash(SIGNS, facts, ('ways', 'f')), True)
        for value in (['ways', 'f'], ('ways',), ('ways', 'f', 'f'), ('ways', 'g'), ('ways', ['f']), ('ways', None),
                      ('ring', 'f'), ('ring', ['f', 'f']), ('way', 'f'), ('ways', ('f',)), 'ways', None, ()):
            self.assertIs(shows_clash(SIGNS, facts, value), False, value)
        for facts in ((('left', 'f'),), (('lots', 'f'), ('lots', 'f')), ()):
            self.assertIs(shows_clash(SIGNS, facts, ('ways', 'f')), False)
            self.assertIsNone(clash(SIGNS, facts))

    def test_values_of_all_kinds(self):
        facts = (('above', 'f', 'a'), ('above', 'a', 'f'), ('left', 'f'), ('lots', 'f'))
        for value in ODD:
            told = isinstance(value, tuple) and len(value) == 2 and value == ('ways', 'f')
            self.assertIs(shows_clash(SIGNS, facts, value), told)
            self.assertIs(shows_clash(SIGNS, facts, ('ring', value)), False)
            self.assertIs(shows_clash(SIGNS, facts, ('ring', ['f', 'a', value])), False)
            self.assertIs(shows_clash(SIGNS, facts, ('ways', value)), value == 'f' if isinstance(value, str) else False)

    def test_values_with_one_change(self):
        facts = (('above', 'f', 'g'), ('above', 'g', 'a'), ('above', 'a', 'f'))
        for value in changed(clash(SIGNS, facts)):
            ring = value[1] if isinstance(value, tuple) and len(value) == 2 and value[0] == 'ring' else None
            told = isinstance(ring, list) and ring in (['f', 'g', 'a'], ['g', 'a', 'f'], ['a', 'f', 'g'])
            self.assertIs(shows_clash(SIGNS, facts, value), told, value)

    def test_lists_are_new(self):
        facts = (('above', 'f', 'g'), ('above', 'g', 'f'))
        told = clash(SIGNS, facts)
        told[1].clear()
        self.assertTrue(shows_clash(SIGNS, facts, clash(SIGNS, facts)))

    def test_by_name(self):
        self.assertIsNone(clash(signs=SIGNS, facts=()))
        self.assertFalse(shows_clash(signs=SIGNS, facts=(), value=None))


class Possible(unittest.TestCase):
    """clash, order_of and fits against all orders."""

    def check(self, signs, orders, facts):
        fit = [order for order in orders if set(facts) <= set(order.facts)]
        told = clash(signs, facts)
        self.assertEqual(told is None, bool(fit))
        self.assertIs(shows_clash(signs, facts, told), told is not None)
        self.assertEqual([order for order in orders if fits(order, facts)], fit)
        if fit:
            order = order_of(signs, facts)
            self.assertIn(order, fit)
            self.assertEqual(order, order_of(signs, facts))
        else:
            with self.assertRaises(NotPossible):
                order_of(signs, facts)

    def test_all_small_sets(self):
        signs = Signs([('f', 2), ('b', 0), ('c', 3)])
        orders = list(plain.all_orders(signs))
        for many in range(5):
            for facts in combinations(plain.all_facts(signs), many):
                self.check(signs, orders, facts)

    def test_larger_sets_in_any_order_with_doubles(self):
        signs = Signs([('f', 2), ('b', 0), ('c', 3), ('e', 1), ('d', 1)])
        orders = list(plain.all_orders(signs))
        rng = random.Random(11)
        for _ in range(60):
            facts = tuple(rng.choices(plain.all_facts(signs), k=rng.randrange(9)))
            self.check(signs, orders, facts)
        for order in rng.sample(orders, 20):
            facts = tuple(rng.sample(order.facts, len(order.facts)))
            self.check(signs, orders, facts)
            self.check(signs, orders, facts * 2)
            self.check(signs, orders, facts + (opposite(rng.choice(facts)),))

    def test_fits(self):
        order = Order(SIGNS, ['g', 'f', 'a'], ['f'])
        self.assertIs(fits(order, ()), True)
        self.assertIs(fits(order, order.facts), True)
        self.assertIs(fits(order=order, facts=(('lots', 'f'), ('above', 'g', 'a'), ('lots', 'f'))), True)
        self.assertIs(fits(order, (('lots', 'f'), ('above', 'a', 'g'))), False)
        self.assertIs(fits(order, (('left', 'f'),)), False)

    def test_order_of(self):
        self.assertIsInstance(order_of(signs=SIGNS, facts=()), Order)
        order = order_of(SIGNS, (('above', 'a', 'g'), ('above', 'g', 'f'), ('lots', 'f')))
        self.assertEqual((order.names, order.lots), (['a', 'g', 'f'], ['f']))


class LookingAtFacts(unittest.TestCase):
    def asks(self):
        order = Order(SIGNS, ['g', 'f', 'a'], ['f'])
        return [lambda facts: clash(SIGNS, facts), lambda facts: shows_clash(SIGNS, facts, None),
                lambda facts: order_of(SIGNS, facts), lambda facts: fits(order, facts)]

    def test_no_tuple(self):
        for ask in self.asks():
            for value in ODD + [[('left', 'f')], {('left', 'f'): 1}, 'left']:
                if not isinstance(value, tuple):
                    with self.assertRaises(NoTuple):
                        ask(value)

    def bad_fact(self, ask, facts):
        with self.assertRaises(BadFact) as caught:
            ask(facts)
        return caught.exception.number

    def test_first_number(self):
        good = ('above', 'f', 'g')
        for ask in self.asks():
            for value in ODD + [('above', 'f', 'f'), ('left', 'g'), ('above', 'f', 'x'), ['left', 'f'], 'left']:
                if not is_fact(SIGNS, value):
                    self.assertEqual(self.bad_fact(ask, (value,)), 0)
                    self.assertEqual(self.bad_fact(ask, (good, ('left', 'f'), value, None)), 2)

    def test_bad_fact_before_not_possible(self):
        facts = (('left', 'f'), ('lots', 'f'), ('left', 'g'))
        self.assertEqual(self.bad_fact(lambda told: order_of(SIGNS, told), facts), 2)

    def test_facts_of_other_signs(self):
        self.assertEqual(self.bad_fact(lambda told: clash(SIGNS, told), (('left', 'f'), ('lots', 'h'))), 1)


class Needs(unittest.TestCase):
    def setUp(self):
        self.signs = Signs([('f', 2), ('h', 3), ('g', 1), ('a', 0), ('b', 0)])

    def check(self, s, t, told):
        self.assertEqual(needs(self.signs, s, t), told)

    def test_none(self):
        for s, t in (('X', 'X'), ('X', 'Y'), ('X', A), (A, A), (('f', 'X', 'Y'), ('f', 'X', 'Y')), (A, 'X'),
                     (('g', 'X'), 'Y'), (('f', 'X', 'Y'), ('f', 'Y', 'X')), (('g', 'X'), ('g', ('g', 'X'))),
                     (('f', 'X', 'X'), ('g', 'Y')), (('g', 'X'), ('g', 'Y'))):
            self.check(s, t, [])

    def test_the_empty_set_alone(self):
        for s, t in ((('g', 'X'), 'X'), (('f', A, B), B), (('g', ('g', ('f', 'X', 'Y'))), 'Y'), (('h', 'X', A, 'Y'), A),
                     (('f', ('f', A, 'X'), ('g', 'X')), ('g', 'X')), (('g', ('g', A)), A), (('g', ('g', A)), ('g', A))):
            self.check(s, t, [()])

    def test_part(self):
        self.check(('f', A, 'X'), B, [(('above', 'a', 'b'),), (('above', 'f', 'b'),)])
        self.check(('g', ('g', A)), B, [(('above', 'a', 'b'),), (('above', 'g', 'b'),)])

    def test_sign(self):
        self.check(A, B, [(('above', 'a', 'b'),)])
        self.check(('g', 'X'), A, [(('above', 'g', 'a'),)])
        self.check(('f', 'X', 'Y'), ('g', ('g', 'X')), [(('above', 'f', 'g'),)])
        self.check(('f', 'X', 'Y'), ('h', 'X', A, ('g', 'Y')),
                   [(('above', 'f', 'a'), ('above', 'f', 'g'), ('above', 'f', 'h'))])

    def test_arity_one(self):
        self.check(('g', A), ('g', B), [(('above', 'a', 'b'),)])
        self.check(('g', ('f', 'X', 'Y')), ('g', ('g', 'X')), [(('above', 'f', 'g'),)])

    def test_left_and_lots(self):
        self.check(('f', A, 'X'), ('f', B, 'X'), [(('above', 'a', 'b'), ('left', 'f')), (('above', 'a', 'b'), ('lots', 'f'))])
        self.check(('f', 'X', ('g', 'Y')), ('f', 'Y', 'X'), [(('lots', 'f'),)])
        self.check(('f', ('g', 'X'), 'X'), ('f', 'X', ('g', 'X')), [(('left', 'f'),)])
        self.check(('f', ('g', 'X'), 'Y'), ('f', 'X', ('f', 'Y', 'Y')), [])
        self.check(('f', ('f', 'X', 'Y'), 'Z'), ('f', 'X', ('f', 'Y', 'Z')), [(('left', 'f'),)])

    def test_lots_with_more_than_one_left(self):
        self.check(('h', A, A, 'X'), ('h', 'X', A, B), [(('above', 'a', 'b'), ('lots', 'h'))])
        self.check(('h', ('g', 'X'), ('g', 'Y'), 'Z'), ('h', 'Z', 'X', 'Y'), [(('lots', 'h'),)])

    def test_not_possible_ones_are_left_out(self):
        # f(a, b) is above g(a) by f above g, or by b above g and a; the latter clashes with a above b.
        self.check(('f', A, B), ('f', B, ('g', A)), [(('above', 'a', 'b'), ('above', 'f', 'g'), ('left', 'f'))])
        # The inner f asks for a way, so the outer one has the same.
        self.check(('f', ('f', 'X', ('g', 'Y')), 'Z'), ('f', ('f', 'Y', 'X'), 'Z'), [(('lots', 'f'),)])
        self.check(('f', ('f', ('g', 'X'), 'X'), 'Z'), ('f', ('f', 'X', ('g', 'X')), 'Z'), [(('left', 'f'),)])

    def test_exchanged_arguments(self):
        self.check(('f', A, B), ('f', B, A), [(('above', 'a', 'b'), ('left', 'f'))])
        self.check(('f', ('f', A, B), 'X'), ('f', ('f', B, A), 'X'), [(('above', 'a', 'b'), ('left', 'f'))])

    def test_larger_ones_are_left_out(self):
        self.check(('g', A), ('g', ('g', B)), [(('above', 'a', 'b'), ('above', 'a', 'g'))])
        self.check(('g', A), ('f', ('g', B), B), [
            (('above', 'a', 'b'), ('above', 'a', 'f'), ('above', 'a', 'g')), (('above', 'a', 'b'), ('above', 'g', 'f'))])

    def test_no_chains_are_drawn(self):
        # a above g above b has a above b follow, but is no larger set than (a above b) alone.
        self.check(('g', A), B, [(('above', 'a', 'b'),), (('above', 'g', 'b'),)])

    def test_ascending(self):
        for s, t in ((('f', ('g', A), 'X'), ('f', B, ('g', B))), (('h', A, A, 'X'), ('g', B)), (('f', A, ('g', B)), ('h', A, B, B))):
            told = needs(self.signs, s, t)
            self.assertTrue(told)
            self.assertEqual(told, sorted(told))
            for one in told:
                self.assertIsInstance(one, tuple)
                self.assertEqual(list(one), sorted(set(one)))

    def test_bad_term(self):
        for value in ODD:
            if not is_term(self.signs, value):
                for s, t in ((value, 'X'), (value, ()), ('X', value), (A, ('f', value, 'X'))):
                    with self.assertRaises(BadTerm) as caught:
                        needs(self.signs, s, t)
                    self.assertIs(caught.exception.value, t if s in ('X', A) else s)

    def test_by_name_and_new(self):
        for _ in range(2):
            told = needs(signs=self.signs, s=A, t=B)
            self.assertEqual(told, [(('above', 'a', 'b'),)])
            told.clear()


class NeedsAndOrders(unittest.TestCase):
    """Points 8 and 9, against plain recursion and over all orders of small signs."""

    def check(self, pairs, variables, levels, many):
        signs = Signs(pairs)
        orders = list(plain.all_orders(signs))
        terms = plain.terms_up_to(signs, variables, levels)
        rng = random.Random(7)
        both = [(s, t) for s in terms for t in terms]
        for s, t in rng.sample(both, min(many, len(both))):
            told = needs(signs, s, t)
            self.assertEqual(told, plain.needs(signs, s, t), (s, t))
            for order in orders:
                self.assertEqual(order(s, t), any(fits(order, one) for one in told), (order.facts, s, t))

    def test_constants(self):
        self.check([('a', 0), ('b', 0), ('c', 0)], ['X'], 1, 100)

    def test_arity_one(self):
        self.check([('g', 1), ('k', 1), ('a', 0)], ['X', 'Y'], 4, 400)

    def test_arity_two(self):
        self.check([('f', 2), ('g', 1), ('a', 0)], ['X', 'Y'], 3, 500)

    def test_two_of_arity_two(self):
        self.check([('f', 2), ('k', 2), ('a', 0)], ['X'], 3, 300)

    def test_arity_three(self):
        self.check([('h', 3), ('a', 0), ('b', 0)], ['X'], 2, 784)
        self.check([('h', 3), ('f', 2), ('b', 0)], ['X'], 2, 784)

    def test_deeper(self):
        signs = Signs([('f', 2), ('h', 3), ('g', 1), ('a', 0)])
        orders = list(plain.all_orders(signs))
        rng = random.Random(9)
        for _ in range(150):
            s, t = plain.drawn(rng, signs, ['X', 'Y'], 4), plain.drawn(rng, signs, ['X', 'Y'], 3)
            told = needs(signs, s, t)
            self.assertEqual(told, plain.needs(signs, s, t), (s, t))
            for order in orders:
                self.assertEqual(order(s, t), any(fits(order, one) for one in told))


if __name__ == '__main__':
    unittest.main()
