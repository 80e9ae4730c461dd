"""Points 9 and 10: books, orders that serve them, and trees of cases."""

import random
import unittest

import papers
import plain
from shutbyrings.books import Book, shows_served, shows_shut, unserved, verdict
from shutbyrings.errors import BadBar, BadFact, BadRule, NoList, NoRule, NoTuple, Unlike
from shutbyrings.facts import needs
from shutbyrings.orders import Order, steps
from shutbyrings.terms import Signs, put
from values import ODD, changed, nested

SIGNS = Signs([('f', 2), ('g', 1), ('a', 0)])
FLAT = Signs([('a', 0), ('b', 0), ('c', 0)])
A, B, C = ('a',), ('b',), ('c',)
GA = ('g', A)


def raised(self, kind, call, *given, **named):
    with self.assertRaises(kind) as caught:
        call(*given, **named)
    return caught.exception


class Books(unittest.TestCase):
    def setUp(self):
        self.rules = [(GA, A), (('f', 'X', 'Y'), 'X'), (A, GA)]
        self.barred = [(A, 'X'), (GA, GA)]
        self.book = Book(SIGNS, self.rules, self.barred)

    def test_what_stands_in_it(self):
        self.assertIs(self.book.signs, SIGNS)
        self.assertEqual(self.book.rules, [(GA, A), (('f', 'X', 'Y'), 'X'), (A, GA)])
        self.assertEqual(self.book.barred, [(A, 'X'), (GA, GA)])
        self.assertEqual(len(self.book), 3)
        self.assertEqual([self.book[k] for k in range(3)], self.rules)
        self.assertEqual(Book(signs=SIGNS, rules=self.rules, barred=self.barred), self.book)

    def test_copies_what_is_handed_in(self):
        self.rules.append((A, A))
        self.barred.clear()
        self.assertEqual((len(self.book.rules), len(self.book.barred)), (3, 2))
        self.book.rules.clear()
        self.book.barred.append((A, A))
        self.assertEqual((len(self.book.rules), len(self.book.barred)), (3, 2))

    def test_empty(self):
        book = Book(SIGNS, [], [])
        self.assertEqual((book.rules, book.barred, len(book)), ([], [], 0))
        self.assertEqual(raised(self, NoRule, lambda: book[0]).number, 0)
        self.assertEqual(book.without([]), book)
        self.assertEqual(book.turned([]), book)
        self.assertEqual(book + book, book)

    def test_rules_that_are_none(self):
        for value in ODD:
            if not isinstance(value, list):
                raised(self, NoList, Book, SIGNS, value, [])
                raised(self, NoList, Book, SIGNS, [], value)
            for pair in (value, (value, 'X', 'X'), (value,), ('X', (value,)), (('g', value), ['X'])):
                if type(pair) is tuple and len(pair) == 2 and isinstance(pair[0], str) and pair != ('left', 'f'):
                    continue
                self.assertEqual(raised(self, BadRule, Book, SIGNS, [(A, A), pair, None], []).number, 1)
                self.assertEqual(raised(self, BadBar, Book, SIGNS, [(A, A)], [(A, A), (A, A), pair, 3]).number, 2)
        for pair in ([A, A], (A, A, A), (A,), (B, A), (A, B), (A, ['a']), ('x', A), (A, 'x'), (('g',), A), ()):
            self.assertEqual(raised(self, BadRule, Book, SIGNS, [pair], []).number, 0)
            self.assertEqual(raised(self, BadBar, Book, SIGNS, [], [pair]).number, 0)

    def test_rules_before_barred_pairs(self):
        raised(self, NoList, Book, SIGNS, (), [0])
        self.assertEqual(raised(self, BadRule, Book, SIGNS, [(A, A), 0], 0).number, 1)
        self.assertEqual(raised(self, BadRule, Book, SIGNS, [0], [0]).number, 0)
        raised(self, NoList, Book, SIGNS, [(A, A)], ((A, A),))
        raised(self, BadBar, Book, SIGNS, [(A, A)], [None])

    def test_numbers_of_rules(self):
        for value in ODD + [3, 4, slice(0, 1), None, '0', [0], (0,)]:
            if type(value) is int and 0 <= value < 3:
                continue
            error = raised(self, NoRule, lambda: self.book[value])
            self.assertIs(error.number, value)

    def test_not_iterated_over(self):
        raised(self, TypeError, list, self.book)

    def test_equal(self):
        same = Signs([('f', 2), ('g', 1), ('a', 0)])
        self.assertTrue(Book(same, list(self.rules), list(self.barred)) == self.book)
        self.assertFalse(Book(same, list(self.rules), list(self.barred)) != self.book)
        others = [
            Book(SIGNS, self.rules[::-1], self.barred), Book(SIGNS, self.rules, self.barred[::-1]),
            Book(SIGNS, self.rules[:2], self.barred), Book(SIGNS, self.rules, self.barred[:1]),
            Book(SIGNS, self.rules + self.barred, []), Book(SIGNS, self.barred, self.rules),
            Book(SIGNS, [(A, GA)] + self.rules[1:], self.barred), Book(SIGNS, self.rules, [('X', A), (GA, GA)]),
            Book(SIGNS, self.rules, [(A, 'Y'), (GA, GA)]),
            Book(Signs([('g', 1), ('f', 2), ('a', 0)]), self.rules, self.barred),
            Book(Signs([('f', 2), ('g', 1), ('a', 0), ('b', 0)]), self.rules, self.barred),
        ]
        for other in others + ODD + [self.rules, (self.rules, self.barred), SIGNS]:
            self.assertFalse(self.book == other)
            self.assertTrue(self.book != other)

    def test_equal_for_terms_of_any_depth(self):
        one, other = nested(3000, lambda x: ('g', x)), nested(3000, lambda x: ('g', x))
        self.assertTrue(Book(SIGNS, [(one, A)], []) == Book(SIGNS, [(other, A)], []))
        self.assertFalse(Book(SIGNS, [(one, A)], []) == Book(SIGNS, [(('g', other), A)], []))

    def test_terms_are_told_apart(self):
        signs = Signs([('f', 2), ('h', 3), ('a', 0)])
        told = plain.terms_up_to(signs, ['X'], 2)
        books = [Book(signs, [(s, 'X')], []) for s in told]
        for i, one in enumerate(books):
            self.assertEqual([one == other for other in books], [i == j for j in range(len(books))])

    def test_sums(self):
        other = Book(SIGNS, [(A, A)], [('X', A)])
        told = self.book + other
        self.assertEqual((told.rules, told.barred), (self.rules + [(A, A)], self.barred + [('X', A)]))
        self.assertIs(told.signs, SIGNS)
        self.assertEqual((other + self.book).rules, [(A, A)] + self.rules)
        self.assertEqual((len(self.book), len(other)), (3, 1))
        same = Book(Signs([('f', 2), ('g', 1), ('a', 0)]), [], [])
        self.assertEqual(self.book + same, self.book)
        for value in ODD[:-2] + [Book(FLAT, [], []), Book(Signs([('g', 1), ('f', 2), ('a', 0)]), [], []), [], None]:
            if not isinstance(value, Book) or value.signs != SIGNS:
                raised(self, Unlike, lambda: self.book + value)

    def test_without_and_turned(self):
        one, two, three = self.rules
        for numbers, left in (([], self.rules), ([0], [two, three]), ([2, 0], [two]), ([1, 1], [one, three]), ([2, 1, 0], [])):
            told = self.book.without(numbers)
            self.assertEqual((told.rules, told.barred, told.signs), (left, self.barred, SIGNS))
        turned = [rule[::-1] for rule in self.rules]
        for numbers, left in (([], self.rules), ([0], [turned[0], two, three]), ([2, 0, 2], [turned[0], two, turned[2]]),
                              ([1, 1], [one, turned[1], three]), ([0, 1, 2], turned)):
            told = self.book.turned(numbers)
            self.assertEqual((told.rules, told.barred, told.signs), (left, self.barred, SIGNS))
        self.assertEqual(self.book.rules, self.rules)
        self.assertEqual(self.book.turned(numbers=[0]), self.book.without(numbers=[]).turned([0]))

    def test_numbers_that_are_none(self):
        for call in (self.book.without, self.book.turned):
            for value in ODD:
                if not isinstance(value, list):
                    raised(self, NoList, call, value)
                if not (type(value) is int and 0 <= value < 3):
                    self.assertIs(raised(self, NoRule, call, [0, 2, value, 7]).number, value)
            for value in (3, -1, True, False, '0', (0,)):
                self.assertIs(raised(self, NoRule, call, [value]).number, value)
        self.assertEqual(self.book, Book(SIGNS, self.rules, self.barred))


class Unserved(unittest.TestCase):
    def test_first_rule_then_first_barred_pair(self):
        order = Order(FLAT, ['a', 'b', 'c'], [])
        for rules, barred, told in (
                ([], [], None), ([(A, B), (A, C)], [(B, A)], None), ([(A, B), (B, A), (C, A)], [(A, B)], ('rule', 1)),
                ([(A, A)], [], ('rule', 0)), ([(A, B)], [(C, A), (B, C), (A, B)], ('barred', 1)), ([], [(A, A)], None)):
            self.assertEqual(unserved(order, Book(FLAT, rules, barred)), told)

    def test_against_a_plain_trial(self):
        rng = random.Random(11)
        for _ in range(150):
            book = papers.drawn_book(rng)
            for order in papers.orders_of(book.signs):
                rules = [k for k, rule in enumerate(book.rules) if not plain.above(order, *rule)]
                barred = [j for j, pair in enumerate(book.barred) if plain.above(order, *pair)]
                told = ('rule', rules[0]) if rules else ('barred', barred[0]) if barred else None
                self.assertEqual(unserved(order=order, book=book), told)

    def test_other_signs(self):
        raised(self, Unlike, unserved, Order(FLAT, ['a', 'b', 'c'], []), Book(SIGNS, [], []))
        same = Signs([('a', 0), ('b', 0), ('c', 0)])
        self.assertIsNone(unserved(Order(same, ['a', 'b', 'c'], []), Book(FLAT, [], [])))
        turned = Signs([('b', 0), ('a', 0), ('c', 0)])
        raised(self, Unlike, unserved, Order(turned, ['a', 'b', 'c'], []), Book(FLAT, [], []))


class Downhill(unittest.TestCase):
    def test_exactly_if_all_facts_of_a_need_hold(self):
        rng = random.Random(10)
        for _ in range(150):
            book = papers.drawn_book(rng)
            for order in papers.orders_of(book.signs):
                for s, t in book.rules + book.barred:
                    told = any(papers.fits(order, need) for need in needs(book.signs, s, t))
                    self.assertIs(order(s, t), told)
                self.assertEqual(unserved(order, book) is None, papers.serves(order, book))

    def test_a_step_goes_down(self):
        rng = random.Random(9)
        many = 0
        for _ in range(200):
            book = papers.drawn_book(rng)
            for order in papers.serving(book)[:3]:
                for s, t in book.rules:
                    given = {name: plain.drawn(rng, book.signs, ['X', 'Z'], 2) for name in ('X', 'Y')}
                    one, other = put(s, given), put(t, given)
                    self.assertTrue(order(one, other))
                    for f in book.signs.names:
                        row = [plain.drawn(rng, book.signs, ['X', 'Z'], 2) for _ in range(book.signs.arity(f))]
                        for k in range(len(row)):
                            self.assertTrue(order((f, *row[:k], one, *row[k + 1:]), (f, *row[:k], other, *row[k + 1:])))
                            many += 1
        self.assertGreater(many, 200)


class Verdicts(unittest.TestCase):
    def check(self, book, facts):
        told = verdict(book, facts=facts)
        self.assertEqual(told[0], 'yes' if papers.serving(book, facts) else 'no')
        if told[0] == 'yes':
            self.assertEqual(len(told), 3)
            self.assertTrue(papers.shows_served(book, facts, told[1:]))
            self.assertIs(shows_served(book, told[1:], facts=facts), True)
        else:
            self.assertEqual(len(told), 2)
            self.assertTrue(papers.shows_tree(book, facts, told[1]))
            self.assertIs(shows_shut(book, told[1], facts=facts), True)
        return told[0]

    def test_exactly_one_for_every_book_and_all_facts(self):
        rng = random.Random(12)
        told = []
        for _ in range(500):
            book = papers.drawn_book(rng)
            told.append(self.check(book, papers.drawn_facts(rng, book.signs)))
        self.assertTrue(100 < told.count('yes') < 400)

    def test_larger_books(self):
        rng = random.Random(13)
        for _ in range(60):
            signs = Signs(rng.choice([[('f', 2), ('g', 2), ('a', 0), ('b', 0)], [('a', 0), ('b', 0), ('c', 0), ('d', 0)]]))
            book = papers.drawn_book(rng, signs, 7)
            self.check(book, papers.drawn_facts(rng, signs))
            self.check(Book(signs, [], book.rules + book.barred), ())

    def test_empty_books(self):
        for pairs in papers.KINDS:
            book = Book(Signs(pairs), [], [])
            order = verdict(book)[1]
            self.assertEqual(verdict(book)[2], [])
            self.assertEqual(verdict(book, facts=order.facts + order.facts)[1], order)

    def test_one_sign_alone(self):
        signs = Signs([('a', 0)])
        self.assertEqual(verdict(Book(signs, [], []))[1], Order(signs, ['a'], []))
        self.assertEqual(verdict(Book(signs, [(A, A)], [])), ('no', ('rule', 0, [])))
        self.assertEqual(verdict(Book(signs, [], [(A, A)]))[0], 'yes')
        signs = Signs([('f', 2)])
        told = verdict(Book(signs, [(('f', ('f', 'X', 'Y'), 'Z'), ('f', 'X', ('f', 'Y', 'Z')))], []))
        self.assertEqual((told[0], told[1].lots), ('yes', []))

    def test_a_rule_with_no_needs(self):
        for rule in (('X', A), (A, 'X'), (A, A), ('X', 'Y'), (A, GA), (('f', 'X', 'Y'), ('f', 'Y', 'X'))):
            book = Book(SIGNS, [rule], [])
            known = papers.needs(SIGNS, *rule)
            self.assertEqual(verdict(book)[0], 'yes' if known else 'no')
            self.assertIs(shows_shut(book, ('rule', 0, [])), not known)

    def test_a_barred_pair_that_always_stands(self):
        told = verdict(Book(SIGNS, [], [(A, 'X'), (('g', 'X'), 'X')]))
        self.assertEqual(told, ('no', ('held', 1, 0)))

    def test_facts_that_are_not_possible(self):
        facts = (('above', 'a', 'b'), ('above', 'b', 'c'), ('above', 'c', 'a'))
        told = verdict(Book(FLAT, [], []), facts=facts)
        self.assertEqual((told[0], told[1][0]), ('no', 'ring'))
        self.assertTrue(shows_shut(Book(FLAT, [], []), told[1], facts=facts))
        book = Book(SIGNS, [(A, GA)], [])
        self.assertEqual(verdict(book, facts=(('lots', 'f'), ('left', 'f')))[1], ('ways', 'f'))

    def test_a_barred_pair_held_by_what_follows(self):
        facts = (('above', 'a', 'b'), ('above', 'b', 'c'))
        book = Book(FLAT, [], [(A, C)])
        told = verdict(book, facts=facts)
        self.assertEqual(told[0], 'no')
        self.assertFalse(shows_shut(book, ('held', 0, 0), facts=facts))
        self.assertTrue(shows_shut(book, told[1], facts=facts))
        self.assertTrue(shows_shut(book, ('held', 0, 0), facts=facts + (('above', 'a', 'c'),)))

    def test_same_question_same_answer(self):
        rng = random.Random(14)
        for _ in range(30):
            book = papers.drawn_book(rng)
            again = Book(book.signs, book.rules, book.barred)
            self.assertEqual(verdict(book), verdict(again))
            self.assertEqual(verdict(book), verdict(book))

    def test_lists_are_new(self):
        book = Book(FLAT, [(A, B)], [(A, C)])
        told = verdict(book)
        told[2].clear()
        self.assertEqual(len(verdict(book)[2]), 1)
        shut = verdict(book, facts=(('above', 'b', 'a'),))
        shut[1][2].clear()
        self.assertTrue(shows_shut(book, verdict(book, facts=(('above', 'b', 'a'),))[1], facts=(('above', 'b', 'a'),)))
        row = [part for part in lists_in(verdict(Book(FLAT, [(A, B), (B, C), (C, A)], []))) if isinstance(part, list)]
        self.assertEqual(len({id(part) for part in row}), len(row))

    def test_a_book_is_left_as_it_is(self):
        book = Book(FLAT, [(A, B), (B, A)], [(C, A)])
        verdict(book)
        shows_shut(book, verdict(book)[1])
        self.assertEqual((book.rules, book.barred), ([(A, B), (B, A)], [(C, A)]))
        self.assertTrue(book == Book(FLAT, [(A, B), (B, A)], [(C, A)]))

    def test_facts_are_looked_at(self):
        book = Book(FLAT, [(A, B)], [])
        calls = [lambda facts: verdict(book, facts=facts), lambda facts: shows_served(book, None, facts=facts),
                 lambda facts: shows_shut(book, None, facts=facts)]
        for call in calls:
            for value in ODD:
                if not isinstance(value, tuple):
                    raised(self, NoTuple, call, value)
                self.assertEqual(raised(self, BadFact, call, (('above', 'a', 'b'), value)).number, 1)
            raised(self, NoTuple, call, [('above', 'a', 'b')])
            self.assertEqual(raised(self, BadFact, call, (('left', 'a'), 3)).number, 0)
        for call in (verdict, shows_served, shows_shut):
            with self.assertRaises(TypeError):
                call(book, None, ())


def lists_in(value):
    yield value
    if isinstance(value, (tuple, list)):
        for part in value:
            yield from lists_in(part)


class ShowsServed(unittest.TestCase):
    def test_every_order(self):
        rng = random.Random(15)
        for _ in range(80):
            book = papers.drawn_book(rng, None, 2)
            facts = papers.drawn_facts(rng, book.signs)
            for order in papers.orders_of(book.signs):
                told = [steps(order, *rule) for rule in book.rules]
                good = papers.fits(order, facts) and papers.serves(order, book)
                self.assertIs(shows_served(book, (order, told), facts=facts), good)

    def test_papers_with_a_part_otherwise(self):
        rng = random.Random(16)
        for _ in range(25):
            book = papers.drawn_book(rng, None, 2)
            facts = papers.drawn_facts(rng, book.signs)[:1]
            told = verdict(book, facts=facts)
            if told[0] == 'yes':
                for value in changed(told[1:]):
                    self.assertIs(shows_served(book, value, facts=facts), papers.shows_served(book, facts, value))

    def test_values_of_many_forms(self):
        book = Book(SIGNS, [(GA, A)], [(A, GA)])
        order, told = verdict(book)[1:]
        self.assertEqual(told, [('part', 0, None)])
        self.assertTrue(shows_served(book, (order, told)))
        for value in ODD + [[order, told], (order, tuple(told)), (order, told, 1), (order,), order, ('yes', order, told)]:
            self.assertIs(shows_served(book, value), False)
            self.assertIs(shows_served(book, (order, value)), False)
            self.assertIs(shows_served(book, (order, [value])), value == ('part', 0, None))
            self.assertIs(shows_served(book, (value, told)), value is order)

    def test_barred_pairs_are_looked_at(self):
        signs = Signs([('a', 0), ('b', 0)])
        order = Order(signs, ['a', 'b'], [])
        self.assertTrue(shows_served(Book(signs, [], [(B, A)]), (order, [])))
        self.assertFalse(shows_served(Book(signs, [], [(B, A), (A, B)]), (order, [])))
        self.assertFalse(shows_served(Book(signs, [], []), (order, []), facts=(('above', 'b', 'a'),)))
        self.assertFalse(shows_served(Book(FLAT, [], []), (order, [])))


class ShowsShut(unittest.TestCase):
    def test_trees_that_ask_for_every_fact(self):
        rng = random.Random(17)
        many = 0
        for _ in range(150):
            book = papers.drawn_book(rng)
            facts = papers.drawn_facts(rng, book.signs)
            if not papers.serving(book, facts):
                tree = papers.full_tree(book, facts)
                self.assertTrue(papers.shows_tree(book, facts, tree))
                self.assertIs(shows_shut(book, tree, facts=facts), True)
                many += 1
        self.assertGreater(many, 40)

    def test_papers_with_a_part_otherwise(self):
        rng = random.Random(18)
        good = 0
        for _ in range(150):
            book = papers.drawn_book(rng, None, 2)
            facts = papers.drawn_facts(rng, book.signs)
            if papers.serving(book, facts):
                continue
            tree = verdict(book, facts=facts)[1] if rng.random() < 0.7 else papers.full_tree(book, facts)
            if len(repr(tree)) < 400:
                for value in changed(tree):
                    told = papers.shows_tree(book, facts, value)
                    self.assertIs(shows_shut(book, value, facts=facts), told, (facts, value))
                    good += told
        self.assertGreater(good, 100)

    def test_no_tree_where_an_order_serves(self):
        rng = random.Random(19)
        for _ in range(60):
            book = papers.drawn_book(rng, None, 2)
            orders = papers.serving(book)
            if orders:
                for fact in plain.all_facts(book.signs):
                    told = verdict(book, facts=(fact,))
                    if told[0] == 'no':
                        self.assertFalse(shows_shut(book, told[1]))

    def test_values_of_many_forms(self):
        book = Book(SIGNS, [(GA, ('f', A, A)), (A, 'X')], [(GA, A), (A, GA)])
        for value in ODD:
            told = papers.is_small(value) and papers.shows_tree(book, (), value)
            self.assertIs(shows_shut(book, value), told)
            for odd in (('rule', value, []), ('rule', 0, value), ('rule', 0, [value]), ('rule', 0, [(value, value)]),
                        ('rule', 0, [((), value)]), ('held', value, 0), ('held', 1, value), ('ring', value),
                        ('ring', [value, value]), ('ways', value), ('way', value, value, value),
                        ('way', 'f', ('held', 0, 0), value), ('above', value, 'f', value, value), (value, 0, []),
                        ('above', 'f', value, value, value), ('above', 'f', 'g', ('held', 0, 0), value)):
                told = papers.is_small(value) and papers.shows_tree(book, (), odd)
                self.assertIs(shows_shut(book, odd), told, odd)

    def test_deep_trees(self):
        book = Book(SIGNS, [], [(GA, A)])
        for make in (lambda x: ('way', 'f', x, ('held', 0, 0)), lambda x: ('above', 'f', 'a', ('held', 0, 0), x)):
            tree, wrong = ('held', 0, 0), ('held', 0, 1)
            for _ in range(5000):
                tree, wrong = make(tree), make(wrong)
            self.assertTrue(shows_shut(book, tree))
            self.assertFalse(shows_shut(book, wrong))

    def test_cases(self):
        signs = Signs([('f', 2), ('a', 0), ('b', 0)])
        book = Book(signs, [(('f', A, 'X'), ('f', B, 'X'))], [])
        facts = (('above', 'b', 'a'), ('above', 'b', 'f'))
        ring, over = ('ring', ['a', 'b']), ('ring', ['b', 'f'])
        self.assertEqual(papers.needs(signs, *book.rules[0]), [
            (('above', 'a', 'b'), ('left', 'f')), (('above', 'a', 'b'), ('lots', 'f'))])
        above = ('above', 'a', 'b')
        good = [[((above,), ring)], [((above, above), ring)], [((above, ('left', 'f')), ring), ((above, ('lots', 'f')), ring)],
                [((('lots', 'f'), above), ring), ((above,), ring)], [((above,), ring), ((('above', 'f', 'b'),), over)],
                [((above,), ('way', 'f', ring, ring))]]
        bad = [[], [((), ring)], [((above, ('left', 'f')), ring)], [((above, ('lots', 'f')), ring)], [([above], ring)],
               [((above,), over)], [((('above', 'f', 'b'),), over)], [((above,), ring), ((('above', 'a', 'f'),), ring)],
               [[(above,), ring]], [((above,), ring, ring)], [(above, ring)], [((above,), ring), None], (((above,), ring),),
               [((above, ('above', 'a', 'f')), ring)], [((above, None), ring)]]
        for cases, right in [(row, True) for row in good] + [(row, False) for row in bad]:
            tree = ('rule', 0, cases)
            self.assertIs(papers.shows_tree(book, facts, tree), right, tree)
            self.assertIs(shows_shut(book, tree, facts=facts), right, tree)

    def test_numbers_and_words(self):
        book = Book(FLAT, [(A, 'X'), (B, 'X')], [(A, A), (A, B)])
        facts = (('above', 'a', 'b'), ('above', 'b', 'c'))
        for value, right in (
                (('held', 1, 0), True), (('held', True, 0), False), (('held', 1, False), False), (('held', 0, 0), False),
                (('held', 2, 0), False), (('held', -1, 0), False), (('held', 1, 1), False), (('held', 1, -1), False),
                (('held', 1), False), (('held', 1, 0, 0), False), (['held', 1, 0], False), (('held', '1', 0), False),
                (('rule', 0, []), True), (('rule', 1, []), True), (('rule', True, []), False), (('rule', 2, []), False),
                (('rule', -1, []), False), (('rule', 0, ()), False), (('rule', 0), False), (('rule', 0, [], []), False),
                (('barred', 1, 0), False), (('Held', 1, 0), False), (('ring', ['a', 'b']), False)):
            self.assertIs(shows_shut(book, value, facts=facts), right, value)
            self.assertEqual(papers.shows_tree(book, facts, value), right, value)

    def test_both_sides_of_a_fact(self):
        signs = Signs([('f', 2), ('a', 0), ('b', 0)])
        book = Book(signs, [], [(A, B), (B, A)])
        one, other = ('held', 0, 0), ('held', 1, 0)
        self.assertTrue(shows_shut(book, ('above', 'a', 'b', one, other)))
        self.assertTrue(shows_shut(book, ('above', 'b', 'a', other, one)))
        self.assertTrue(shows_shut(book, ('way', 'f', ('above', 'a', 'b', one, other), ('above', 'b', 'a', other, one))))
        for tree in (('above', 'a', 'b', other, one), ('above', 'a', 'b', one), ('above', 'a', 'a', one, other),
                     ('above', 'a', 'x', one, other), ('above', 'a', 'b', one, other, one), ('way', 'a', one, other),
                     ('way', 'f', one, other), ('left', 'f', one, other), ('above', 'a', 'f', one, other)):
            self.assertFalse(shows_shut(book, tree))
        book = Book(signs, [(('f', A, B), ('f', B, A))], [])
        told = papers.needs(signs, *book.rules[0])
        self.assertTrue(all(('left', 'f') in need for need in told))
        self.assertTrue(shows_shut(book, ('rule', 0, [((('left', 'f'),), ('ways', 'f'))]), facts=(('lots', 'f'),)))
        self.assertFalse(shows_shut(book, ('rule', 0, [((('left', 'f'),), ('ways', 'f'))]), facts=(('left', 'f'),)))


if __name__ == '__main__':
    unittest.main()
