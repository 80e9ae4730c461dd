"""Points 13 to 15: fewest rules to drop or to turn about, and facts that force a book."""

import random
import unittest

import papers
from shutbyrings.books import Book, verdict
from shutbyrings.errors import BadFact, NoTuple
from shutbyrings.least import forcing, least_drop, shows_drop, shows_forcing, shows_turns, turns
from shutbyrings.orders import Order
from shutbyrings.terms import Signs
from values import ODD, changed

SIGNS = Signs([('f', 2), ('g', 1), ('a', 0)])
FLAT = Signs([('a', 0), ('b', 0), ('c', 0)])
A, B, C = ('a',), ('b',), ('c',)
RING = (('above', 'a', 'b'), ('above', 'b', 'c'), ('above', 'c', 'a'))
# Three rings of two rules each, of which two share a rule.
KNOT = Book(FLAT, [(A, B), (B, A), (B, C), (C, B), (A, B)], [])


def raised(self, kind, call, *given, **named):
    with self.assertRaises(kind) as caught:
        call(*given, **named)
    return caught.exception


def drawn(rng, most=4):
    """A book with some rules, so that there is something to drop."""
    signs = Signs(rng.choice(papers.KINDS))
    while True:
        book = papers.drawn_book(rng, signs, most)
        if len(book) > 1:
            return book, papers.drawn_facts(rng, signs)[:2]


def fewest(book, facts, changed_book):
    for row in papers.lists_of(len(book)):
        if papers.serving(changed_book(book, row), facts):
            return row
    return None


class Drops(unittest.TestCase):
    def test_against_a_plain_trial(self):
        rng = random.Random(31)
        lengths = []
        for _ in range(250):
            book, facts = drawn(rng)
            told = least_drop(book, facts=facts)
            row = fewest(book, facts, papers.without)
            self.assertEqual(told[0], 'no' if row is None else 'yes')
            if row is not None:
                self.assertEqual((len(told), len(told[1])), (5, len(row)))
            self.assertTrue(papers.drop_shown(book, facts, told))
            self.assertIs(shows_drop(book, told, facts=facts), True)
            lengths.append(None if row is None else len(row))
        for length in (None, 0, 1, 2, 3):
            self.assertIn(length, lengths)

    def test_edges(self):
        empty = Book(FLAT, [], [])
        told = least_drop(empty)
        self.assertEqual((told[0], told[1], told[3], told[4]), ('yes', [], [], []))
        self.assertEqual(least_drop(Book(FLAT, [(A, A)], []))[1], [0])
        self.assertEqual(least_drop(Book(FLAT, [(A, B)], [(A, B), (B, A)]))[0], 'no')
        self.assertEqual(least_drop(empty, facts=RING)[:1], ('no',))
        self.assertEqual(least_drop(empty, facts=RING)[1][0], 'ring')
        told = least_drop(KNOT)
        self.assertEqual((told[0], len(told[1]), len(told[3])), ('yes', 2, 3))
        told = least_drop(Book(Signs([('a', 0)]), [(A, A), (A, A), (A, 'X')], []))
        self.assertEqual((told[1], told[3]), ([0, 1, 2], []))
        self.assertEqual(least_drop(KNOT, facts=(('above', 'b', 'a'), ('above', 'b', 'a'), ('above', 'b', 'c')))[1], [0, 3, 4])

    def test_papers_by_hand(self):
        order = Order(FLAT, ['a', 'b', 'c'], [])
        ab, ba = (('above', 'a', 'b'),), (('above', 'b', 'a'),)
        book = Book(FLAT, [(A, B), (B, A)], [])
        steps = [('sign', [])]
        tree = ('rule', 0, [(ab, ('rule', 1, [(ba, ('ring', ['a', 'b']))]))])
        self.assertTrue(shows_drop(book, ('yes', [1], order, steps, [tree])))
        self.assertTrue(shows_drop(book, ('yes', [1], order, steps, [tree, tree])))
        back = Order(FLAT, ['b', 'a', 'c'], [])
        self.assertTrue(shows_drop(book, ('yes', [0], back, steps, [tree])))
        for value in (('yes', [1], order, steps, []), ('yes', [1], order, [], [tree]), ('yes', [0], order, steps, [tree]),
                      ('yes', [1], back, steps, [tree]), ('yes', [1], order, steps, tree), ('yes', [1], order, steps, (tree,)),
                      ('yes', [1, 1], order, steps, [tree]), ('yes', [0, 1], order, [], [tree]), ('yes', [1, 0], order, [], [tree]),
                      ('yes', [True], order, steps, [tree]), ('yes', (1,), order, steps, [tree]), ('yes', [-1], order, steps, [tree]),
                      ('yes', [2], order, steps, [tree]), ('yes', [1], order, steps, [tree, None]), ('yes', [], order, steps, [tree]),
                      ('yes', [1], order, steps), ['yes', [1], order, steps, [tree]], ('no', tree), ('no', order),
                      ('Yes', [1], order, steps, [tree]), ('yes', [1], order, steps, [tree], [])):
            self.assertFalse(shows_drop(book, value), value)

    def test_no_fewer_numbers_hit_all_trees(self):
        told = least_drop(KNOT)
        for k in range(len(told[4])):
            left = told[4][:k] + told[4][k + 1:]
            self.assertEqual(shows_drop(KNOT, (*told[:4], left)), papers.drop_shown(KNOT, (), (*told[:4], left)))
        self.assertFalse(shows_drop(KNOT, (*told[:4], told[4][:1])))
        # All numbers dropped serve as well, but they are not the fewest.
        order = verdict(Book(FLAT, [], []))[1]
        self.assertFalse(shows_drop(KNOT, ('yes', [0, 1, 2, 3, 4], order, [], told[4])))

    def test_a_tree_without_all_rules(self):
        book = Book(FLAT, [(A, B)], [(A, B), (B, A)])
        tree = ('above', 'a', 'b', ('held', 0, 0), ('held', 1, 0))
        self.assertTrue(shows_drop(book, ('no', tree)))
        self.assertFalse(shows_drop(book, ('no', ('rule', 0, [((('above', 'a', 'b'),), ('held', 0, 0))]))))
        self.assertFalse(shows_drop(Book(FLAT, [(A, A)], []), ('no', ('rule', 0, []))))

    def test_papers_with_a_part_otherwise(self):
        rng = random.Random(32)
        for _ in range(80):
            book, facts = drawn(rng, 2)
            told = least_drop(book, facts=facts)
            if len(repr(told)) < 500:
                for value in changed(told):
                    self.assertIs(shows_drop(book, value, facts=facts), papers.drop_shown(book, facts, value), value)

    def test_values_of_many_forms(self):
        told = least_drop(KNOT)
        for value in ODD:
            for k in range(5):
                odd = (*told[:k], value, *told[k + 1:])
                self.assertIs(shows_drop(KNOT, odd), False)
            for odd in (value, ('no', value), (value, value), ('yes', value), (value,) * 5, (*told, value),
                        (*told[:4], told[4] + [value]), (*told[:3], told[3][:2] + [value], told[4])):
                self.assertIs(shows_drop(KNOT, odd), papers.is_small(odd) and papers.drop_shown(KNOT, (), odd))


class Turns(unittest.TestCase):
    def test_against_a_plain_trial(self):
        rng = random.Random(33)
        lengths = []
        for _ in range(200):
            book, facts = drawn(rng)
            told = turns(book, facts=facts)
            row = fewest(book, facts, papers.turned)
            self.assertEqual(told[0], 'no' if row is None else 'yes')
            if row is not None:
                self.assertEqual((len(told), told[1]), (5, row))
            self.assertTrue(papers.turns_shown(book, facts, told))
            self.assertIs(shows_turns(book, told, facts=facts), True)
            lengths.append(None if row is None else len(row))
        for length in (None, 0, 1, 2):
            self.assertIn(length, lengths)

    def test_any_list_of_fewest_turns(self):
        rng = random.Random(34)
        for _ in range(60):
            book, facts = drawn(rng, 3)
            told = turns(book, facts=facts)
            for row in papers.lists_of(len(book)):
                served = verdict(papers.turned(book, row), facts=facts)
                if served[0] == 'yes':
                    value = ('yes', row, served[1], served[2], told[4])
                    self.assertIs(shows_turns(book, value, facts=facts), len(row) == len(told[1]))

    def test_edges(self):
        empty = Book(FLAT, [], [])
        self.assertEqual([turns(empty)[k] for k in (0, 1, 3, 4)], ['yes', [], [], []])
        told = turns(Book(FLAT, [(A, A)], []))
        self.assertEqual(told, ('no', [([], ('rule', 0, [])), ([0], ('rule', 0, []))]))
        told = turns(empty, facts=RING)
        self.assertEqual((told[0], len(told[1]), told[1][0][0]), ('no', 1, []))
        told = turns(Book(SIGNS, [('X', ('g', 'X')), (A, 'X')], []))
        self.assertEqual((told[0], [row for row, _ in told[1]]), ('no', [[], [0], [1], [0, 1]]))
        told = turns(Book(SIGNS, [('X', ('g', 'X')), (('g', A), A), (A, ('g', ('g', A)))], []))
        self.assertEqual((told[:2], [row for row, _ in told[4]]), (('yes', [0, 2]), [[], [0], [1], [2]]))
        told = turns(KNOT)
        self.assertEqual((told[:2], [row for row, _ in told[4]]), (('yes', [1, 2]), papers.lists_of(5)[:6]))

    def test_first_list(self):
        book = Book(FLAT, [(A, B), (B, C), (C, A)], [])
        self.assertEqual(turns(book)[:2], ('yes', [0]))
        self.assertEqual(turns(book, facts=(('above', 'a', 'b'), ('above', 'a', 'b')))[:2], ('yes', [1]))
        self.assertEqual(turns(book, facts=(('above', 'c', 'b'), ('above', 'b', 'a')))[:2], ('yes', [0, 1]))

    def test_papers_by_hand(self):
        order, back = Order(FLAT, ['a', 'b', 'c'], []), Order(FLAT, ['b', 'a', 'c'], [])
        book = Book(FLAT, [(A, B), (B, A)], [])
        steps = [('sign', []), ('sign', [])]
        tree = ('rule', 0, [((('above', 'a', 'b'),), ('rule', 1, [((('above', 'b', 'a'),), ('ring', ['a', 'b']))]))])
        self.assertTrue(shows_turns(book, ('yes', [0], back, steps, [([], tree)])))
        self.assertTrue(shows_turns(book, ('yes', [1], order, steps, [([], tree)])))
        for value in (('yes', [0], order, steps, [([], tree)]), ('yes', [0], back, steps, []), ('yes', [0], back, steps, [tree]),
                      ('yes', [0], back, steps, [((), tree)]), ('yes', [0], back, steps, ([], tree)),
                      ('yes', [0], back, steps, [([], tree), ([1], tree)]), ('yes', [0], back, steps, [[[], tree]]),
                      ('yes', [0], back, steps, [([0], tree)]), ('yes', [0], back, steps[:1], [([], tree)]),
                      ('yes', (0,), back, steps, [([], tree)]), ('yes', [False], back, steps, [([], tree)]),
                      ('yes', [0, 0], back, steps, [([], tree)]), ('yes', [0, 1], back, steps, [([], tree)]),
                      ('no', [([], tree)]), ('no', []), ('yes', [0], back, steps)):
            self.assertFalse(shows_turns(book, value), value)

    def test_lists_in_their_order(self):
        book = Book(SIGNS, [('X', ('g', 'X')), (('g', A), A), (A, ('g', ('g', A)))], [])
        told = turns(book)
        rows = told[4]
        self.assertTrue(shows_turns(book, told))
        for i in range(len(rows)):
            for j in range(i):
                other = list(rows)
                other[i], other[j] = rows[j], rows[i]
                self.assertFalse(shows_turns(book, (*told[:4], other)))
        for row, odd in ((1, [False]), (2, [True]), (2, (1,)), (2, [1, 1]), (0, None)):
            other = rows[:row] + [(odd, rows[row][1])] + rows[row + 1:]
            self.assertFalse(shows_turns(book, (*told[:4], other)))

    def test_papers_with_a_part_otherwise(self):
        rng = random.Random(35)
        for _ in range(80):
            book, facts = drawn(rng, 2)
            told = turns(book, facts=facts)
            if len(repr(told)) < 500:
                for value in changed(told):
                    self.assertIs(shows_turns(book, value, facts=facts), papers.turns_shown(book, facts, value), value)

    def test_values_of_many_forms(self):
        book = Book(FLAT, [(A, B), (B, C), (C, A)], [])
        told = turns(book)
        for value in ODD:
            for k in range(5):
                self.assertIs(shows_turns(book, (*told[:k], value, *told[k + 1:])), False)
            for odd in (value, ('no', value), (value, value), (value,) * 5, ('no', [value]), ('no', [([], value)] * 8),
                        (*told[:4], told[4] + [value])):
                self.assertIs(shows_turns(book, odd), False)


class Forcing(unittest.TestCase):
    def test_against_a_plain_trial(self):
        rng = random.Random(36)
        words = []
        for _ in range(300):
            book = papers.drawn_book(rng)
            told = forcing(book)
            words.append(told[0])
            if told[0] == 'no':
                self.assertFalse(papers.serving(book))
                self.assertTrue(papers.shows_tree(book, (), told[1]))
                continue
            facts = told[1]
            self.assertEqual((len(told), facts), (5, tuple(sorted(set(facts)))))
            fitting = papers.serving(Book(book.signs, [], []), facts)
            self.assertTrue(fitting and all(papers.serves(order, book) for order in fitting))
            self.assertTrue(papers.forcing_shown(book, told[1:]))
            self.assertIs(shows_forcing(book, told[1:]), True)
        self.assertTrue(80 < words.count('yes') < 250)

    def test_edges(self):
        for pairs in papers.KINDS:
            told = forcing(Book(Signs(pairs), [], []))
            self.assertEqual((told[:2], told[3:]), (('yes', ()), ([], [])))
        self.assertEqual(forcing(Book(FLAT, [(A, A)], [])), ('no', ('rule', 0, [])))
        told = forcing(Book(FLAT, [(A, B), (B, C)], []))
        self.assertEqual(told[1], (('above', 'a', 'b'), ('above', 'b', 'c')))
        self.assertEqual(forcing(Book(FLAT, [], [(A, 'X'), (A, A)]))[1], ())

    def test_any_facts_that_force(self):
        rng = random.Random(37)
        many = 0
        for _ in range(60):
            book = papers.drawn_book(rng, None, 2)
            for facts in [papers.drawn_facts(rng, book.signs) for _ in range(20)] + [()]:
                if len(set(facts)) != len(facts):
                    continue
                value = paper_of(book, facts)
                right = papers.forcing_shown(book, value)
                self.assertIs(shows_forcing(book, value), right)
                many += right
        self.assertGreater(many, 30)

    def test_facts_in_any_order_each_once(self):
        book = Book(FLAT, [(A, B), (B, C)], [])
        one, two = ('above', 'a', 'b'), ('above', 'b', 'c')
        told = forcing(book)[1:]
        self.assertTrue(shows_forcing(book, told))
        self.assertTrue(shows_forcing(book, ((two, one), told[1], told[2], told[3][::-1])))
        self.assertFalse(shows_forcing(book, ((two, one), told[1], told[2], told[3])))
        self.assertFalse(shows_forcing(book, ((one, two, one), told[1], told[2], told[3] + told[3][:1])))
        self.assertFalse(shows_forcing(book, ([one, two], *told[1:])))
        self.assertFalse(shows_forcing(book, ('yes', *told)))
        self.assertFalse(shows_forcing(book, list(told)))
        third = ('above', 'a', 'c')
        self.assertFalse(shows_forcing(book, ((one, two, third), told[1], told[2], told[3] + [told[1]])))
        self.assertFalse(shows_forcing(book, ((one, two, third), told[1], told[2], told[3] + [Order(FLAT, ['c', 'a', 'b'], [])])))

    def test_papers_with_a_part_otherwise(self):
        rng = random.Random(38)
        for _ in range(80):
            book = papers.drawn_book(rng, None, 2)
            told = forcing(book)
            if told[0] == 'yes' and len(repr(told)) < 500:
                for value in changed(told[1:]):
                    self.assertIs(shows_forcing(book, value), papers.forcing_shown(book, value), value)

    def test_values_of_many_forms(self):
        book = Book(FLAT, [(A, B), (B, C)], [])
        told = forcing(book)[1:]
        for value in ODD:
            for k in range(4):
                self.assertIs(shows_forcing(book, (*told[:k], value, *told[k + 1:])), False)
            for odd in (value, (value,) * 4, (*told, value), ((value,), *told[1:]), ((*told[0], value), *told[1:]),
                        (*told[:2], [value] * len(told[2]), told[3]), (*told[:3], [value] * len(told[3]))):
                right = papers.is_small(odd) and papers.forcing_shown(book, odd)
                self.assertIs(shows_forcing(book, odd), right)


def paper_of(book, facts):
    """The best that there is to say that facts force a book, right or wrong."""
    empty = Book(book.signs, [], [])
    order = (papers.serving(empty, facts) + [None])[0]
    told = [verdict(one, facts=facts) for one in papers.questions(empty, book)]
    apart = [[order for order in papers.serving(empty, facts[:k] + facts[k + 1:]) if not papers.serves(order, book)] + [None]
             for k in range(len(facts))]
    return facts, order, [row[1] for row in told], [row[0] for row in apart]


class All(unittest.TestCase):
    def test_facts_are_looked_at(self):
        book = Book(FLAT, [(A, B)], [])
        for call in (lambda facts: least_drop(book, facts=facts), lambda facts: shows_drop(book, None, facts=facts),
                     lambda facts: turns(book, facts=facts), lambda facts: shows_turns(book, None, facts=facts)):
            for value in ODD:
                if not isinstance(value, tuple):
                    raised(self, NoTuple, call, value)
                self.assertEqual(raised(self, BadFact, call, (value,) + RING).number, 0)
        for call in (least_drop, turns):
            with self.assertRaises(TypeError):
                call(book, ())

    def test_same_question_same_answer_in_new_lists(self):
        rng = random.Random(39)
        for _ in range(20):
            book, facts = drawn(rng)
            again = Book(book.signs, book.rules, book.barred)
            for call in (least_drop, turns):
                told = call(book, facts=facts)
                self.assertEqual(told, call(again, facts=facts))
                self.assertEqual(told, call(book, facts=facts))
                spoilt(told)
                self.assertEqual(call(book, facts=facts), call(again, facts=facts))
            self.assertEqual(forcing(book), forcing(again))
            spoilt(forcing(book))
            self.assertEqual(forcing(book), forcing(again))
            self.assertEqual(book, again)

    def test_each_list_stands_in_one_place(self):
        for value in (least_drop(KNOT), turns(KNOT), forcing(Book(FLAT, [(A, B), (B, C)], [])), turns(Book(FLAT, [(A, A)], []))):
            rows = list(lists_in(value))
            self.assertEqual(len({id(row) for row in rows}), len(rows))


def lists_in(value):
    if isinstance(value, list):
        yield value
    if isinstance(value, (tuple, list)):
        for part in value:
            yield from lists_in(part)


def spoilt(value):
    for row in list(lists_in(value)):
        row.clear()


if __name__ == '__main__':
    unittest.main()
