"""Point 22 for falls, comparisons that were seen, leads and texts: at the bounds no call takes long."""

import random
import time
import unittest

import plain
from shutbyrings.books import Book, shows_served
from shutbyrings.compared import sure
from shutbyrings.errors import BadText, NotServed, TooMany
from shutbyrings.falls import longest_fall, matched, next_steps, shows_fall, shows_longest
from shutbyrings.facts import needs
from shutbyrings.leads import Lead
from shutbyrings.orders import Order
from shutbyrings.terms import Signs, put, size
from shutbyrings.texts import read_book, read_facts, read_order, read_term, show_book, show_facts, show_order, show_term
from shutbyrings.told import book_seen, parting
from test_book_bounds import drawn_book, drawn_pair
from test_bounds import KINDS, large
from walks import levels

LONG = 10


def wide(rng, signs, many, most):
    """A term with at most so many levels and about so many signs and variables."""
    return large(rng, signs, ['X', 'Y'], most, many)


class Timed(unittest.TestCase):
    def timed(self, call, *given, **named):
        start = time.monotonic()
        told = call(*given, **named)
        self.assertLess(time.monotonic() - start, LONG, call)
        return told


class Falls(Timed):
    def check(self, book, term):
        steps = self.timed(next_steps, book, term)
        self.assertTrue(all(self.timed(shows_fall, book, term, [step]) for step in steps[:5]))
        try:
            told = self.timed(longest_fall, Book(book.signs, book.rules, book.barred), term)
        except (NotServed, TooMany) as error:
            return error
        self.assertTrue(self.timed(shows_longest, book, term, told))
        self.assertTrue(self.timed(shows_fall, book, term, told[0]))
        self.assertFalse(self.timed(shows_longest, book, term, (told[0], told[1][1:])))
        return told

    def test_books_of_large_terms(self):
        rng = random.Random(121)
        for pairs in KINDS:
            signs = Signs(pairs)
            for rules, barred in ((1, 0), (4, 2), (8, 8)):
                book = drawn_book(rng, signs, rules, barred)
                for many, most in ((30, 6), (200, 12)):
                    self.check(book, wide(rng, signs, many, most))

    def test_rules_that_fit_everywhere(self):
        rng = random.Random(122)
        signs = Signs(KINDS[0])
        for names in ('fghk', 'fg', 'f'):
            rules = [((name, 'X', 'Y'), side) for name in names for side in ('X', 'Y')]
            for many in (5, 7, 9, 30, 200):
                self.check(Book(signs, rules, []), wide(rng, signs, many, 12))
        same = Book(signs, [(('f', 'X', 'Y'), 'X')] * 8, [])
        for many in (9, 30, 200):
            self.check(same, wide(rng, signs, many, 12))

    def test_a_hundred_terms_of_two_hundred_signs(self):
        rng = random.Random(123)
        signs = Signs([('f', 2), ('g', 1), ('a', 0), ('b', 0)])
        book = Book(signs, [(('a',), ('b',))], [])
        still = Signs([('f', 2), ('b', 0)])
        while True:
            term = large(rng, still, ['X'], 9, 190)
            if levels(term) == 9 and size(term) > 150:
                break
        for many in (6, 7):
            top = [('a',)] * many
            while len(top) > 1:
                top = [('f', *top[k:k + 2]) if k + 1 < len(top) else top[k] for k in range(0, len(top), 2)]
            told = self.check(book, ('f', top[0], term))
            self.assertEqual(isinstance(told, TooMany), many == 7)
        self.assertEqual((len(told_heights(book, ('f', ('f', ('a',), ('a',)), term))), levels(term)), (4, 9))
        eight = Book(signs, [(('f', 'X', 'Y'), 'X')] * 4 + [(('f', 'X', 'Y'), 'Y')] * 4, [])
        fall, heights = longest_fall(book, ('f', top_of(6), term))
        self.assertFalse(self.timed(shows_longest, eight, ('f', top_of(6), term), (fall, heights)))

    def test_many_rules_at_many_places(self):
        signs = Signs([('f', 3), ('g', 1), ('a', 0), ('b', 0)])
        row = ('a',)
        for _ in range(99):
            row = ('g', row)
        book = Book(signs, [(('g', 'X'), 'X')] * 8, [])
        fall, heights = self.timed(longest_fall, book, row)
        self.assertEqual((len(fall), len(heights)), (99, 100))
        self.assertTrue(self.timed(shows_longest, book, row, (fall, heights)))
        self.assertEqual(len(self.timed(next_steps, book, row)), 99 * 8)

    def test_terms_that_grow(self):
        signs = Signs([('h', 3), ('f', 2), ('s', 1), ('a', 0)])
        book = Book(signs, [(('h', ('s', 'X'), 'Y', 'Z'), ('h', 'X', ('s', ('s', ('s', ('s', 'Y')))), ('f', 'Z', 'Z'))),
                            (('h', 'X', ('s', 'Y'), 'Z'), ('h', 'X', 'Y', ('f', 'Z', 'Z')))], [])
        two = ('s', ('s', ('a',)))
        self.assertEqual(len(self.check(book, ('h', two, ('a',), ('s', ('a',))))[0]), 10)
        four = ('s', ('s', two))
        self.assertEqual(len(self.timed(longest_fall, book, ('h', four, ('a',), ('s', ('a',))))[0]), 20)
        more = Book(signs, book.rules + [(('s', 'X'), 'X')], [])
        self.assertIsInstance(self.check(more, ('h', four, four, four)), TooMany)

    def test_matching_large_terms(self):
        rng = random.Random(124)
        for pairs in KINDS:
            signs = Signs(pairs)
            for _ in range(10):
                left = wide(rng, signs, 30, 6)
                term = put(left, {'X': wide(rng, signs, 30, 6), 'Y': wide(rng, signs, 30, 6)})
                told = self.timed(matched, left, term, {})
                self.assertEqual(put(left, told), term)


def top_of(many):
    top = ('a',)
    for _ in range(many - 1):
        top = ('f', ('a',), top)
    return top


def told_heights(book, term):
    return longest_fall(book, term)[1]


class SeenAndLeads(Timed):
    def test_parting_large_terms(self):
        rng = random.Random(125)
        for pairs in KINDS:
            signs = Signs(pairs)
            for rules, barred in ((0, 0), (3, 3), (8, 8)):
                book = drawn_book(rng, signs, rules, barred)
                rows = [wide(rng, signs, 30, 6) for _ in range(6)]
                known = tuple(rng.sample(plain.all_facts(signs), rng.choice([0, 1])))
                told = self.timed(parting, book, rows, facts=known)
                if told is not None:
                    self.assertEqual((told[2](*told[:2]), told[3](*told[:2])), (True, False))
                order = Order(signs, rng.sample(signs.names, 5), [])
                self.assertIsNone(self.timed(parting, Book(signs, [], []), rows, facts=order.facts))

    def test_comparisons_that_were_seen(self):
        rng = random.Random(126)
        for pairs in KINDS:
            signs = Signs(pairs)
            order = Order(signs, rng.sample(signs.names, 5), [])
            rows = [drawn_pair(rng, signs) for _ in range(6)]
            rows = [(s, t) for s, t in rows if len(needs(signs, s, t)) < 3]
            book = self.timed(book_seen, signs, [(s, t, order(s, t)) for s, t in rows])
            self.assertEqual(len(book) + len(book.barred), len(rows))

    def test_leads(self):
        rng = random.Random(127)
        for pairs in KINDS:
            signs = Signs(pairs)
            for rules, barred in ((3, 2), (8, 8)):
                self.check(drawn_book(rng, signs, rules, barred), rng)

    def check(self, book, rng):
        lead = self.timed(Lead, book.signs)
        deeds = [(lead.put, rule) for rule in book.rules] + [(lead.bar, pair) for pair in book.barred]
        for call, pair in rng.sample(deeds, len(deeds)):
            self.timed(call, pair)
            self.timed(lead.mark)
        for fact in rng.sample(plain.all_facts(book.signs), 3):
            self.timed(lead.claim, fact)
            told = self.timed(lead.verdict)
            if told[0] == 'yes':
                self.assertTrue(shows_served(lead.book, told[1:], facts=lead.facts))
            else:
                self.assertTrue(self.timed(lead.shows_shut, told[1]))
            self.assertEqual(self.timed(lead.sure_now), sure(lead.book, facts=lead.facts))
        other = self.timed(lead.copy)
        for number in lead.numbers[::2]:
            self.timed(lead.withdraw, number)
        self.timed(lead.back_to, 0)
        self.assertEqual(len(other), len(book) + len(book.barred))

    def test_told_terms_in_leads(self):
        signs = Signs(KINDS[2])
        rng = random.Random(128)
        lead = Lead(signs)
        for _ in range(4):
            one, other = wide(rng, signs, 200, 12), wide(rng, signs, 200, 12)
            self.timed(lead.put, (one, 'X'))
            self.timed(lead.bar, (other, one))
        self.timed(lead.sure_now)
        self.timed(lead.back_to, self.timed(lead.mark))


class Texts(Timed):
    def test_long_texts(self):
        signs = Signs([('abcdefgh', 3), ('f', 2), ('g', 1), ('a', 0), ('b', 0)])
        rng = random.Random(129)
        for most, many in ((31, 3000), (31, 300), (12, 200)):
            term = wide(rng, signs, many, most)
            text = self.timed(show_term, signs, term)
            self.assertEqual(self.timed(read_term, signs, text), term)
            for other in (text[:-1], text + ')', text.replace(', ', ','), text.replace('(', '((', 1), text + 'x'):
                with self.assertRaises(BadText):
                    self.timed(read_term, signs, other)

    def test_thirty_open_brackets(self):
        signs = Signs([('f', 2), ('g', 1), ('a', 0)])
        one, other = 'X', ('a',)
        for _ in range(30):
            one, other = ('g', one), ('f', other, 'Y')
        for term in (one, other):
            text = show_term(signs, term)
            self.assertEqual(self.timed(read_term, signs, text), term)
            book = self.timed(read_book, 'sign f 2\nsign g 1\nsign a 0\nrule %s -> X\nbarred X -> %s' % (text, text))
            self.assertEqual((book.rules, book.barred), ([(term, 'X')], [('X', term)]))

    def test_long_wrong_texts(self):
        signs = Signs([('f', 2), ('g', 1), ('a', 0)])
        for text in ('g(' * 10000, ')' * 20000, 'a' * 20000, ', ' * 10000, ' ' * 20000, 'f(' * 5000 + 'a, a)' * 2500, 'X' * 20000,
                     'a ' * 10000, 'f(a, ' * 4000, '\n' * 20000, 'g(' * 30 + 'a' * 20000, '->' * 10000, ' -> ' * 5000):
            for call in (lambda text: read_term(signs, text), read_book, lambda text: read_book('sign a 0\nrule ' + text + ' -> a'),
                         lambda text: read_facts(signs, text), lambda text: read_order(signs, text)):
                with self.assertRaises(BadText):
                    self.timed(call, text)

    def test_texts_of_many_lines(self):
        signs = Signs(KINDS[0])
        facts = tuple(plain.all_facts(signs) * 60)
        self.assertEqual(self.timed(read_facts, signs, self.timed(show_facts, signs, facts)), facts)
        order = Order(signs, ['a', 'k', 'f', 'h', 'g'], ['k', 'f', 'h'])
        self.assertEqual(self.timed(read_order, signs, show_order(order)), order)
        rng = random.Random(130)
        for pairs in KINDS:
            book = drawn_book(rng, Signs(pairs), 8, 8)
            self.assertEqual(self.timed(read_book, self.timed(show_book, book)), book)
        many = 'sign a 0\n' + '\n'.join(['rule a -> X'] * 900 + ['barred X -> a'] * 400)
        self.assertEqual(len(self.timed(read_book, many)), 900)


if __name__ == '__main__':
    unittest.main()
