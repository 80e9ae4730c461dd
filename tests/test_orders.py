"""Points 5 and 6, and the orders of point 9."""

import random
import unittest

import plain
from shutbyrings.errors import BadLots, BadNames, BadTerm
from shutbyrings.orders import Order, shows_steps, steps
from shutbyrings.terms import Signs, is_term, parts, put
from values import ODD, changed, nested

SIGNS = Signs([('f', 2), ('h', 3), ('g', 1), ('a', 0), ('b', 0)])
LEFT = Order(SIGNS, ['f', 'h', 'g', 'a', 'b'], [])
LOTS = Order(SIGNS, ['f', 'h', 'g', 'a', 'b'], ['h', 'f'])
A, B = ('a',), ('b',)


class MakingOrders(unittest.TestCase):
    def setUp(self):
        self.signs = Signs([('plus', 2), ('s', 1), ('cut', 3)])

    def test_made(self):
        order = Order(self.signs, ['s', 'cut', 'plus'], ['plus', 'cut'])
        self.assertEqual(order.signs, self.signs)
        self.assertEqual(order.names, ['s', 'cut', 'plus'])
        self.assertEqual(order.lots, ['cut', 'plus'])
        self.assertEqual(order.facts, (('above', 'cut', 'plus'), ('above', 's', 'cut'), ('above', 's', 'plus'),
                                       ('lots', 'cut'), ('lots', 'plus')))

    def test_by_name(self):
        order = Order(signs=self.signs, names=['s', 'cut', 'plus'], lots=['cut'])
        self.assertEqual(order.facts[-2:], (('left', 'plus'), ('lots', 'cut')))
        self.assertTrue(order(s=('s', 'X'), t='X'))

    def test_facts_of_all_orders(self):
        signs = Signs([('c', 0), ('f', 2), ('g', 3)])
        for order in plain.all_orders(signs):
            told = [fact for fact in plain.all_facts(signs) if plain_holds(order, fact)]
            self.assertEqual(order.facts, tuple(told))
            self.assertEqual(len(told), 5)

    def test_bad_names(self):
        good = ['plus', 's', 'cut']
        for value in ODD + [tuple(good), good[:2], good + ['s'], ['plus', 's', 's'], ['plus', 's', 'x'], good + ['x'],
                            ['plus', 's', ['cut']], ['plus', 's', ('cut', 3)], ['plus', 's', None], {'plus': 1}, 'plus',
                            dict.fromkeys(good)]:
            for lots in ([], None, ['s'], ('plus',)):
                with self.assertRaises(BadNames):
                    Order(self.signs, value, lots)

    def test_bad_lots(self):
        for value in [one for one in ODD if one != []] + [
                ('plus',), ['s'], ['x'], ['plus', 'plus'], ['plus', 's'], [['plus']], [None], [True], [0], 'plus',
                {'plus': 1}, ['cut', 'plus', 'cut'], [('lots', 'plus')]]:
            with self.assertRaises(BadLots):
                Order(self.signs, ['s', 'plus', 'cut'], value)

    def test_names_of_any_value_inside(self):
        for value in ODD:
            with self.assertRaises(BadNames):
                Order(self.signs, ['plus', 's', value], [])
            with self.assertRaises(BadLots):
                Order(self.signs, ['plus', 's', 'cut'], [value])

    def test_lists_are_copied_and_new(self):
        names, lots = ['s', 'cut', 'plus'], ['plus', 'cut']
        order = Order(self.signs, names, lots)
        self.assertEqual(lots, ['plus', 'cut'])
        names.reverse()
        lots.pop()
        for _ in range(2):
            self.assertEqual(order.names, ['s', 'cut', 'plus'])
            self.assertEqual(order.lots, ['cut', 'plus'])
            order.names.clear()
            order.lots.append('s')

    def test_equal(self):
        order = Order(self.signs, ['s', 'cut', 'plus'], ['plus', 'cut'])
        same = Order(Signs([('plus', 2), ('s', 1), ('cut', 3)]), ['s', 'cut', 'plus'], ['cut', 'plus'])
        self.assertTrue(order == same)
        self.assertFalse(order != same)
        for other in (Order(self.signs, ['s', 'plus', 'cut'], ['plus', 'cut']),
                      Order(self.signs, ['s', 'cut', 'plus'], ['plus']),
                      Order(Signs([('s', 1), ('plus', 2), ('cut', 3)]), ['s', 'cut', 'plus'], ['plus', 'cut']),
                      Order(Signs([('s', 0), ('plus', 2), ('cut', 3)]), ['s', 'cut', 'plus'], ['plus', 'cut'])):
            self.assertFalse(order == other)
            self.assertTrue(order != other)
        for value in ODD + [order.names, order.facts, self.signs]:
            self.assertFalse(order == value)

    def test_properties_are_not_assigned(self):
        for name in ('names', 'lots', 'facts'):
            with self.assertRaises(AttributeError):
                setattr(LEFT, name, [])


def plain_holds(order, fact):
    if fact[0] == 'above':
        return order.names.index(fact[1]) < order.names.index(fact[2])
    return (fact[1] in order.lots) == (fact[0] == 'lots')


class Cases(unittest.TestCase):
    """Each case of point 5 on its own, both ways round."""

    def check(self, order, s, t, told):
        self.assertEqual(steps(order, s, t), told)
        self.assertIs(order(s, t), told is not None)
        self.assertIs(shows_steps(order, s, t, told), told is not None)
        if told is not None:
            self.assertIs(order(t, s), False)
            self.assertIsNone(steps(order, t, s))

    def test_nothing_is_above_itself(self):
        for term in ('X', A, ('g', 'X'), ('f', 'X', 'Y'), ('h', A, B, 'X')):
            self.check(LEFT, term, term, None)
            self.check(LOTS, term, term, None)

    def test_variables(self):
        self.check(LEFT, 'X', 'Y', None)
        self.check(LEFT, 'X', A, None)
        self.check(LEFT, A, 'X', None)
        self.check(LEFT, 'X', ('g', 'Y'), None)
        self.check(LEFT, ('g', 'Y'), 'X', None)

    def test_part(self):
        self.check(LEFT, ('g', 'X'), 'X', ('part', 0, None))
        self.check(LEFT, ('f', 'X', 'Y'), 'Y', ('part', 1, None))
        self.check(LEFT, ('h', A, B, ('g', 'Y')), 'Y', ('part', 2, ('part', 0, None)))
        self.check(LEFT, ('g', ('g', ('g', 'X'))), ('g', 'X'), ('part', 0, ('part', 0, None)))

    def test_sign(self):
        self.check(LEFT, A, B, ('sign', []))
        self.check(LEFT, ('g', 'X'), A, ('sign', []))
        self.check(LEFT, ('f', 'X', 'Y'), ('g', 'Y'), ('sign', [('part', 1, None)]))
        self.check(LEFT, ('f', 'X', 'Y'), ('h', 'Y', 'X', A),
                   ('sign', [('part', 1, None), ('part', 0, None), ('sign', [])]))
        self.check(LEFT, ('f', 'X', 'X'), ('g', 'Y'), None)
        self.check(LEFT, B, A, None)
        self.check(LEFT, ('g', 'X'), ('f', 'X', 'X'), None)

    def test_left(self):
        self.check(LEFT, ('g', A), ('g', B), ('left', 0, ('sign', []), [('part', 0, ('sign', []))]))
        self.check(LEFT, ('f', 'X', A), ('f', 'X', B),
                   ('left', 1, ('sign', []), [('part', 0, None), ('part', 1, ('sign', []))]))
        self.check(LEFT, ('f', ('g', 'X'), 'Y'), ('f', 'X', 'Y'),
                   ('left', 0, ('part', 0, None), [('part', 0, ('part', 0, None)), ('part', 1, None)]))
        self.check(LEFT, ('f', 'X', 'Y'), ('f', 'Y', 'X'), None)
        self.assertTrue(LEFT(('f', ('g', 'X'), 'X'), ('f', 'X', ('g', 'X'))))
        self.assertFalse(LEFT(('f', 'X', ('g', 'X')), ('f', ('g', 'X'), 'X')))
        self.assertTrue(LEFT(('f', ('g', 'X'), 'X'), ('f', 'X', ('g', ('g', 'X')))))
        self.assertFalse(LEFT(('f', ('g', 'X'), 'X'), ('f', 'X', ('f', ('g', 'X'), 'X'))))

    def test_arity_one_has_no_way(self):
        self.assertEqual(steps(LOTS, ('g', A), ('g', B)), steps(LEFT, ('g', A), ('g', B)))
        self.check(LOTS, ('g', 'X'), ('g', 'Y'), None)

    def test_lots(self):
        self.check(LOTS, ('f', 'X', A), ('f', B, 'X'),
                   ('lots', [(0, 1, ('sign', []))], [('part', 1, ('sign', [])), ('part', 0, None)]))
        self.check(LOTS, ('f', 'X', 'Y'), ('f', 'Y', 'X'), None)
        self.check(LOTS, ('f', A, B), ('f', B, A), None)
        self.assertTrue(LOTS(('f', B, A), ('f', B, B)))
        self.assertFalse(LOTS(('f', B, B), ('f', B, A)))
        self.assertTrue(LOTS(('f', 'X', ('g', 'Y')), ('f', 'Y', 'X')))
        self.assertFalse(LEFT(('f', 'X', ('g', 'Y')), ('f', 'Y', 'X')))

    def test_lots_takes_away_pairwise(self):
        s, t = ('h', A, A, 'X'), ('h', 'X', A, B)
        self.check(LOTS, s, t, ('lots', [(2, 1, ('sign', []))],
                                [('part', 2, None), ('part', 0, None), ('part', 0, ('sign', []))]))
        told = steps(LOTS, s, t)
        self.assertFalse(shows_steps(LOTS, s, t, ('lots', [(2, 0, ('sign', []))], told[2])))

    def test_one_above_many(self):
        order = Order(SIGNS, ['h', 'f', 'g', 'a', 'b'], ['h'])
        s, t = ('h', ('f', 'X', 'Y'), B, B), ('h', ('g', 'X'), ('g', 'Y'), B)
        told = steps(order, s, t)
        self.assertEqual(told[0], 'lots')
        self.assertEqual([row[:2] for row in told[1]], [(0, 0), (1, 0)])
        self.assertTrue(shows_steps(order, s, t, told))
        self.assertFalse(shows_steps(order, s, t, ('lots', told[1][::-1], told[2])))
        self.assertFalse(shows_steps(order, s, t, ('lots', told[1], told[2][::-1])))
        self.assertFalse(order(t, s))

    def test_nothing_left_of_t_below(self):
        order = Order(SIGNS, ['b', 'a', 'h', 'f', 'g'], ['h'])
        self.assertTrue(order(('h', B, 'X', 'Y'), ('h', 'Y', 'X', A)))
        self.assertFalse(order(('h', A, 'X', 'Y'), ('h', 'Y', 'X', B)))
        self.assertFalse(order(('h', B, B, 'X'), ('h', A, B, 'Y')))

    def test_equal_but_exchanged_arguments_are_unlike(self):
        s, t = ('f', ('f', A, B), 'X'), ('f', ('f', B, A), 'X')
        self.assertFalse(LOTS(s, t))
        self.assertFalse(LOTS(t, s))
        self.assertTrue(LEFT(s, t))


class BadTerms(unittest.TestCase):
    def test_first_of_s_and_t(self):
        for ask in (LEFT, lambda s, t: steps(LEFT, s, t), lambda s, t: shows_steps(LEFT, s, t, None)):
            for value in ODD:
                if not is_term(SIGNS, value):
                    for s, t in ((value, 'X'), (value, ()), ('X', value), (('g', value), None), (A, ('f', value, 'X'))):
                        with self.assertRaises(BadTerm) as caught:
                            ask(s, t)
                        self.assertIs(caught.exception.value, t if s in ('X', A) else s)

    def test_before_the_value_is_looked_at(self):
        with self.assertRaises(BadTerm):
            shows_steps(LEFT, 'x', 'X', ('part', 0, None))

    def test_by_name(self):
        self.assertEqual(steps(order=LEFT, s=('g', 'X'), t='X'), ('part', 0, None))
        self.assertTrue(shows_steps(order=LEFT, s=('g', 'X'), t='X', value=('part', 0, None)))


class AllOrders(unittest.TestCase):
    """Against plain recursion, over all orders of small signs."""

    def check(self, pairs, variables, levels, many):
        signs = Signs(pairs)
        terms = plain.terms_up_to(signs, variables, levels)
        orders = list(plain.all_orders(signs))
        rng = random.Random(5)
        both = [(s, t) for s in terms for t in terms]
        for s, t in rng.sample(both, min(many, len(both))):
            for order in orders:
                self.check_pair(order, s, t)

    def check_pair(self, order, s, t):
        told = steps(order, s, t)
        self.assertIs(order(s, t), plain.above(order, s, t))
        self.assertEqual(told is not None, plain.above(order, s, t))
        self.assertEqual(steps(order, s, t), told)
        self.assertIs(shows_steps(order, s, t, told), told is not None)
        if told is not None:
            self.assertTrue(plain.shows(order, s, t, told))

    def test_constants(self):
        self.check([('a', 0), ('b', 0), ('c', 0)], ['X'], 1, 100)

    def test_arity_one(self):
        self.check([('g', 1), ('k', 1), ('a', 0)], ['X', 'Y'], 4, 400)

    def test_arity_two(self):
        self.check([('f', 2), ('g', 1), ('a', 0)], ['X', 'Y'], 3, 600)

    def test_two_of_arity_two(self):
        self.check([('f', 2), ('k', 2), ('a', 0)], ['X'], 3, 400)

    def test_arity_three(self):
        self.check([('h', 3), ('a', 0), ('b', 0)], ['X'], 2, 784)
        self.check([('h', 3), ('g', 1), ('b', 0)], ['X'], 3, 400)

    def test_order_goes_on(self):
        signs = Signs([('f', 2), ('g', 1), ('a', 0)])
        terms = plain.terms_up_to(signs, ['X', 'Y'], 2) + [('g', ('f', 'X', 'Y')), ('f', ('g', 'X'), 'Y')]
        given = {'X': ('g', ('f', 'Y', 'Z')), 'Y': ('a',)}
        for order in plain.all_orders(signs):
            over = {s: [t for t in terms if order(s, t)] for s in terms}
            for s in terms:
                self.assertNotIn(s, over[s])
                for part in parts(s)[1:]:
                    self.assertTrue(order(s, part))
                    self.assertFalse(order(part, s))
                for t in over[s]:
                    self.assertLessEqual(set(over[t]), set(over[s]))
                    self.assertTrue(order(put(s, given), put(t, given)))
                    for wrapped in (('g', 'V'), ('f', 'V', 'X'), ('f', ('a',), 'V')):
                        self.assertTrue(order(put(wrapped, {'V': s}), put(wrapped, {'V': t})))


class ShowingSteps(unittest.TestCase):
    PAIRS = [
        (('g', 'X'), 'X'), (('g', A), ('g', B)), (('f', ('g', 'X'), 'Y'), ('g', ('g', 'X'))), (A, B),
        (('f', 'X', A), ('f', B, 'X')), (('f', 'X', A), ('f', 'X', B)), (('h', A, A, 'X'), ('h', 'X', A, B)),
        (('h', 'X', 'X', ('f', 'X', 'Y')), ('h', 'X', ('g', 'X'), ('g', 'Y'))),
        (('f', ('f', 'X', A), 'Y'), ('f', 'X', ('f', B, 'Y'))), (('h', A, A, ('f', 'X', 'Y')), ('h', B, 'Y', 'X')),
        (('f', 'X', ('g', 'Y')), ('h', 'X', A, ('g', 'Y'))),
    ]

    def test_values_of_all_kinds(self):
        for order in (LEFT, LOTS):
            for s, t in self.PAIRS + [(B, A), ('X', 'X'), (A, A)]:
                for value in ODD:
                    if value != ('part', 0, None) or t != 'X':
                        self.assertIs(shows_steps(order, s, t, value), False)

    def test_values_with_one_change(self):
        many = 0
        for order in (LEFT, LOTS):
            for s, t in self.PAIRS:
                told = steps(order, s, t)
                if told is None:
                    continue
                for value in changed(told):
                    many += 1
                    self.assertIs(shows_steps(order, s, t, value), plain.shows(order, s, t, value), (s, t, value))
        self.assertGreater(many, 2000)

    def test_other_steps_of_the_same(self):
        s, t = ('f', ('g', 'X'), ('g', 'X')), ('g', 'X')
        for value in (('part', 0, None), ('part', 1, None), ('sign', [('part', 0, ('part', 0, None))]),
                      ('sign', [('part', 1, ('part', 0, None))])):
            self.assertTrue(shows_steps(LEFT, s, t, value))
        for value in (('part', 2, None), ('part', -1, None), ('part', False, None), ('part', True, None), ('part', 10 ** 39, None),
                      ['part', 0, None], ('part', 0), ('part', 0, None, None), ('part', 0, ()), ('part', None, None),
                      ('part', 0, ('part', 0, None)), ('sign', (('part', 0, ('part', 0, None)),)), ('sign', []),
                      ('sign', [('part', 0, ('part', 0, None))] * 2), ('left', [('part', 0, ('part', 0, None))]),
                      ('sign', [None]), ('sign', None), ('sign',), ('part',), ('sign', [('part', 0, None)])):
            self.assertFalse(shows_steps(LEFT, s, t, value), value)

    def test_bools_in_left_and_lots(self):
        s, t = ('f', 'X', A), ('f', 'X', B)
        word, place, more, rest = steps(LEFT, s, t)
        self.assertTrue(shows_steps(LEFT, s, t, (word, 1, more, rest)))
        self.assertFalse(shows_steps(LEFT, s, t, (word, True, more, rest)))
        self.assertFalse(shows_steps(LEFT, s, t, (word, 0, more, rest)))
        word, rows, rest = steps(LOTS, s, t)
        self.assertEqual(rows, [(1, 1, ('sign', []))])
        for row in ((True, 1, ('sign', [])), (1, True, ('sign', [])), (0, 1, ('sign', [])), (1, 0, ('sign', [])),
                    [1, 1, ('sign', [])], (1, 1), (1, 1, ('sign', ())), (1, 1, None), (1, 2, ('sign', []))):
            self.assertFalse(shows_steps(LOTS, s, t, (word, [row], rest)), row)
        self.assertFalse(shows_steps(LOTS, s, t, (word, tuple(rows), rest)))
        self.assertFalse(shows_steps(LOTS, s, t, (word, rows * 2, rest)))
        self.assertFalse(shows_steps(LOTS, s, t, (word, [], rest)))

    def test_steps_of_the_other_way(self):
        s, t = ('f', A, A), ('f', A, B)
        self.assertFalse(shows_steps(LOTS, s, t, steps(LEFT, s, t)))
        self.assertFalse(shows_steps(LEFT, s, t, steps(LOTS, s, t)))

    def test_nearly_right(self):
        both = [('part', 1, None), ('part', 0, None)]
        for order, s, t, value in (
                (LEFT, B, A, ('sign', [])), (LEFT, B, A, ('none', [])), (LEFT, A, A, ('sign', [])), (LEFT, A, A, ('left', 0, None, [])),
                (LOTS, ('f', 'X', 'Y'), ('f', 'Y', 'X'), ('lots', [], both)), (LOTS, ('f', A, A), ('f', A, A), ('lots', [], both)),
                (LEFT, ('f', 'X', 'Y'), ('f', 'Y', 'X'), ('left', 0, None, both)), (LEFT, ('f', 'X', 'Y'), ('f', 'Y', 'X'), ('sign', both)),
                (LEFT, ('h', 'Y', 'X', 'X'), ('f', 'X', 'Y'), ('left', 0, None, both[::-1])),
                (LEFT, ('g', A), ('g', A), ('part', 0, ('part', 0, None))), (LEFT, 'X', 'X', ('part', 0, None)),
                (LEFT, ('g', 'X'), 'Y', ('part', 0, None)), (LEFT, ('g', 'X'), 'Y', ('sign', [])),
                (LEFT, ('g', 'X'), 'Y', ('left', 0, ('part', 0, None), [])), (LEFT, 'X', 'Y', ('sign', [])), (LEFT, 'X', A, ('sign', []))):
            self.assertFalse(order(s, t))
            self.assertFalse(shows_steps(order, s, t, value), (s, t, value))

    def test_steps_of_other_pairs(self):
        told = {(order.lots == [], s, t): steps(order, s, t) for order in (LEFT, LOTS) for s, t in self.PAIRS}
        for order in (LEFT, LOTS):
            for s, t in self.PAIRS + [(t, s) for s, t in self.PAIRS]:
                for value in told.values():
                    self.assertIs(shows_steps(order, s, t, value), plain.shows(order, s, t, value))

    def test_lists_are_new(self):
        for order in (LEFT, LOTS):
            for s, t in self.PAIRS:
                told = steps(order, s, t)
                lists = list(all_lists(told))
                self.assertEqual(len({id(one) for one in lists}), len(lists))
                for one in lists:
                    one.clear()
                again = steps(order, s, t)
                self.assertIs(shows_steps(order, s, t, again), again is not None)

    def test_deep_values(self):
        signs = Signs([('g', 1), ('a', 0), ('b', 0)])
        order = Order(signs, ['a', 'b', 'g'], [])
        deep = nested(3000, lambda x: ('g', x))
        told = steps(order, deep, 'X')
        self.assertTrue(order(deep, 'X'))
        self.assertTrue(shows_steps(order, deep, 'X', told))
        self.assertFalse(shows_steps(order, deep, 'X', told[2]))
        self.assertFalse(shows_steps(order, deep, 'X', ('part', 0, told)))
        self.assertFalse(shows_steps(order, deep, 'Y', told))
        self.assertIsNone(steps(order, deep, 'Y'))
        self.assertFalse(order(deep, nested(3000, lambda x: ('g', x))) or order('X', deep))


def all_lists(value):
    if isinstance(value, list):
        yield value
    if isinstance(value, (list, tuple)):
        for item in value:
            yield from all_lists(item)


if __name__ == '__main__':
    unittest.main()
