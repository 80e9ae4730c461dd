"""Point 19: texts of terms, books, facts and orders."""

import random
import unittest

import papers
import plain
import walks
from shutbyrings.books import Book, verdict
from shutbyrings.errors import BadFact, BadTerm, BadText, NoTuple
from shutbyrings.orders import Order
from shutbyrings.terms import Signs, is_term, put, size
from shutbyrings.texts import (read_book, read_facts, read_order, read_term, show_book, show_facts, show_order,
                               show_term)
from values import ODD, nested, raised

SIGNS = Signs([('plus', 2), ('s', 1), ('zero', 0), ('h', 3)])
WAYS = Signs([('k', 2), ('f', 2), ('a', 0), ('h', 3)])
ZERO = ('zero',)
ODD_LETTERS = ['', ' ', '\n', '\r', '\t', ',', '(', ')', 'X', 's', 'zero', '->', '-', '\x0b', '\x0c', '\x1c', '\x85', '\xa0', '\u2028',
               '\u3000', '\u0131', '\xb2', '\u0662', '0', '1', '4', 'Z' * 9, 'sign', 'rule ', '_', '\0', '\ufeff']


def nearly(rng, text):
    """Texts that differ from a text at one place."""
    yield from (text + '\n', '\n' + text, text + ' ', ' ' + text, text.upper(), text.lower(), text + ',', '(' + text + ')',
                text.replace('\n', '\r\n'), text.replace(' ', '  '), text.replace(', ', ','), text.replace(' -> ', '->'))
    for _ in range(25):
        at = rng.randrange(len(text) + 1)
        yield text[:at] + rng.choice(ODD_LETTERS) + text[at + rng.choice([0, 1]):]
    lines = text.split('\n')
    for k in range(len(lines)):
        yield '\n'.join(lines[:k] + lines[k + 1:])
        yield '\n'.join(lines[:k] + [lines[k]] + lines[k:])
        yield '\n'.join(lines[:k] + [''] + lines[k:])
        other = rng.randrange(len(lines))
        yield '\n'.join([lines[other] if x == k else lines[k] if x == other else line for x, line in enumerate(lines)])


class Terms(unittest.TestCase):
    def test_shown(self):
        for term, text in (('X', 'X'), (ZERO, 'zero'), (('s', 'AB'), 's(AB)'), (('plus', ('s', 'X'), ZERO), 'plus(s(X), zero)'),
                           (('h', 'X', ('plus', 'Y', 'X'), ('s', ('s', ZERO))), 'h(X, plus(Y, X), s(s(zero)))')):
            self.assertEqual(show_term(SIGNS, term), text)
            self.assertEqual(read_term(SIGNS, text), term)
        self.assertEqual(show_term(term=ZERO, signs=SIGNS), 'zero')
        self.assertEqual(read_term(text='zero', signs=SIGNS), ZERO)

    def test_against_plain_texts(self):
        rng = random.Random(101)
        wrong = 0
        for _ in range(400):
            signs = Signs(rng.choice(papers.KINDS))
            term = plain.drawn(rng, signs, ['X', 'YZ'], 4)
            text = show_term(signs, term)
            self.assertEqual(text, walks.term_text(term))
            self.assertEqual(read_term(signs, text), term)
            for other in nearly(rng, text):
                told = walks.read_term(signs, other)
                if told is None:
                    self.assertEqual(raised(self, BadText, read_term, signs, other).line, 1)
                    wrong += 1
                else:
                    self.assertEqual(read_term(signs, other), told)
        self.assertGreater(wrong, 5000)

    def test_wrong_texts(self):
        for text in ('', ' ', '\n', 'zero\n', '\nzero', 's(X', 's(X))', 's X', 's', 's()', 'zero()', 'zero(X)', 'plus(X,Y)', 'plus(X,  Y)',
                     'plus(X Y)', 'plus(X)', 'plus(X, Y, Z)', 'plus(X; Y)', 'plus (X, Y)', 'plus( X, Y)', 'plus(X, Y )', 'plus(X, Y',
                     'nil', 'x', 'ABCDEFGHI', 'Xy', 'X1', 'X(Y)', 'X, Y', '(X)', 's(nil)', 's((X))', 's(X)s(X)', 'sX', 's)X(', 'plus(, X, Y)',
                     'plus(X, Y, )', 's(s(X)', 's,X,', 'plus,X Y', 'S(X)', 'X\u2028', 's(\u00c4)', 'zero\r', 's(\nX)', 's(X)\n', 'X\nY'):
            self.assertEqual(raised(self, BadText, read_term, SIGNS, text).line, 1, text)

    def test_no_terms_and_no_texts(self):
        for value in ODD:
            if not is_term(SIGNS, value):
                self.assertIs(raised(self, BadTerm, show_term, SIGNS, value).value, value)
            if value != 'X':
                self.assertEqual(raised(self, BadText, read_term, SIGNS, value).line, 1)

    def test_deep(self):
        deep = put(nested(3000, lambda x: ('s', x)), {'X': ZERO})
        text = show_term(SIGNS, deep)
        self.assertEqual(text, 's(' * 3000 + 'zero' + ')' * 3000)
        self.assertEqual(size(read_term(SIGNS, text)), 3001)
        self.assertEqual(raised(self, BadText, read_term, SIGNS, text[:-1]).line, 1)


class Books(unittest.TestCase):
    def test_shown(self):
        book = Book(SIGNS, [(('plus', ZERO, 'X'), 'X'), (('s', 'X'), ZERO)], [('X', ZERO)])
        text = ('sign plus 2\nsign s 1\nsign zero 0\nsign h 3\nrule plus(zero, X) -> X\nrule s(X) -> zero\nbarred X -> zero')
        self.assertEqual(show_book(book), text)
        self.assertEqual(show_book(book=book), text)
        self.assertEqual(read_book(text=text), book)
        self.assertEqual(show_book(Book(Signs([('a', 0)]), [], [])), 'sign a 0')
        self.assertEqual(read_book('sign a 0'), Book(Signs([('a', 0)]), [], []))
        self.assertEqual(read_book('sign a 0\nbarred a -> X').barred, [(('a',), 'X')])

    def test_against_plain_texts(self):
        rng = random.Random(102)
        lines = []
        for _ in range(250):
            book = papers.drawn_book(rng)
            text = show_book(book)
            self.assertEqual(text, walks.book_text(book))
            self.assertEqual(read_book(text), book)
            for other in nearly(rng, text):
                told = walks.read_book(other)
                if isinstance(told, int):
                    self.assertEqual(raised(self, BadText, read_book, other).line, told, other)
                    lines.append(told)
                else:
                    self.assertEqual(read_book(other), told)
        self.assertTrue(all(lines.count(number) > 100 for number in range(1, 6)))

    def test_first_line_that_is_wrong(self):
        two = 'sign f 2\nsign a 0\n'
        for text, line in (
                ('', 1), ('\n', 1), ('sign a 0\n', 2), ('\nsign a 0', 1), ('rule X -> Y', 1), ('barred X -> Y', 1), ('rule X -> Y\nsign a 0', 1),
                ('sign a 4', 1), ('sign a -1', 1), ('sign a 00', 1), ('sign a \u0662', 1), ('sign a \xb2', 1), ('sign a', 1), ('sign  a 0', 1),
                ('sign A 0', 1), ('sign abcdefghi 0', 1), ('sign a 0 ', 1), (' sign a 0', 1), ('Sign a 0', 1), ('sign a 0 0', 1), ('sign 0', 1),
                ('sign a 0\nsign a 0', 2), ('sign a 0\nsign b 0\nsign a 1', 3),
                ('\n'.join('sign %s 0' % name for name in 'abcdef'), 6), ('\n'.join('sign %s 0' % name for name in 'abcdeA'), 6),
                (two + 'rule a -> a\nsign b 0', 4), (two + 'barred a -> a\nsign b 0', 4), (two + 'barred a -> a\nrule a -> a', 4),
                (two + 'rule a -> a\nbarred a -> a\nrule a -> a\nsign f 2', 5), (two + 'rule a -> b', 3), (two + 'rule b -> a', 3),
                (two + 'rule a->a', 3), (two + 'rule a -> a -> a', 3), (two + 'rule a -> ', 3), (two + 'rule -> a', 3), (two + 'rule a', 3),
                (two + 'rule  a -> a', 3), (two + 'rule a  -> a', 3), (two + 'rule a -> a ', 3), (two + 'Rule a -> a', 3), (two + 'rule', 3),
                (two + 'rulea -> a', 3), (two + 'bar a -> a', 3), (two + 'rule f(a,a) -> a', 3), (two + 'rule f(a, a) -> a\n', 4),
                (two + '\nrule a -> a', 3), (two + 'rule a -> a\nrule x -> a\nrule y -> a', 4), (two + 'rule a <- a', 3),
                ('sign a 0\r\nsign b 0', 1), ('sign a 0\x0bsign b 0', 1), ('sign a 0\u2028sign b 0', 1), (two + 'rule f(a, -> a', 3)):
            self.assertEqual(raised(self, BadText, read_book, text).line, line, text)

    def test_five_signs(self):
        text = '\n'.join('sign %s 3' % name for name in 'edcba')
        self.assertEqual(read_book(text).signs.names, list('edcba'))
        self.assertEqual(show_book(read_book(text)), text)

    def test_names_that_are_words_of_texts(self):
        signs = Signs([('sign', 1), ('rule', 2), ('barred', 0), ('order', 0), ('lots', 3)])
        book = Book(signs, [(('rule', 'X', ('sign', 'X')), ('barred',))], [(('order',), ('lots', 'X', 'Y', 'X'))])
        self.assertEqual(read_book(show_book(book)), book)
        order = Order(signs, signs.names, ['lots', 'rule'])
        self.assertEqual(read_order(signs, show_order(order)), order)
        facts = (('lots', 'lots'), ('above', 'sign', 'order'))
        self.assertEqual(read_facts(signs, show_facts(signs, facts)), facts)

    def test_no_texts(self):
        for value in ODD:
            self.assertEqual(raised(self, BadText, read_book, value).line, 1)

    def test_a_book_read_answers_alike(self):
        rng = random.Random(103)
        for _ in range(60):
            book = papers.drawn_book(rng)
            facts = papers.drawn_facts(rng, book.signs)
            told = verdict(read_book(show_book(book)), facts=read_facts(book.signs, show_facts(book.signs, facts)))
            self.assertEqual(told, verdict(book, facts=facts))


class Facts(unittest.TestCase):
    def test_shown(self):
        facts = (('above', 'f', 'k'), ('lots', 'h'), ('left', 'f'), ('above', 'f', 'k'))
        text = 'above f k\nlots h\nleft f\nabove f k'
        self.assertEqual(show_facts(WAYS, facts), text)
        self.assertEqual(show_facts(facts=facts, signs=WAYS), text)
        self.assertEqual(read_facts(WAYS, text), facts)
        self.assertEqual(read_facts(text=text, signs=WAYS), facts)
        self.assertEqual(show_facts(WAYS, ()), '')
        self.assertEqual(read_facts(WAYS, ''), ())

    def test_against_plain_texts(self):
        rng = random.Random(104)
        for _ in range(200):
            signs = Signs(rng.choice(papers.KINDS))
            facts = papers.drawn_facts(rng, signs)
            text = show_facts(signs, facts)
            self.assertEqual(text, walks.facts_text(facts))
            self.assertEqual(read_facts(signs, text), facts)
            for other in nearly(rng, text):
                told = walks.read_facts(signs, other)
                if isinstance(told, int):
                    self.assertEqual(raised(self, BadText, read_facts, signs, other).line, told)
                else:
                    self.assertEqual(read_facts(signs, other), told)

    def test_first_line_that_is_wrong(self):
        for text, line in (('\n', 1), (' ', 1), ('above f k\n', 2), ('\nabove f k', 1), ('above f f', 1), ('above f', 1), ('above f x', 1),
                           ('left a', 1), ('lots x', 1), ('left f\nlots f\nabove a  f', 3), ('left f\nleft\nabove', 2), ('left f f', 1),
                           ('above f k a', 1), ('Left f', 1), ('left f ', 1), (' left f', 1), ('left\tf', 1), ('left f\r\nleft k', 1),
                           ('left f\n\nleft k', 2), ('left f\x0bleft k', 1)):
            self.assertEqual(raised(self, BadText, read_facts, WAYS, text).line, line, text)

    def test_no_facts_and_no_texts(self):
        for value in ODD:
            if not isinstance(value, tuple):
                raised(self, NoTuple, show_facts, WAYS, value)
            if value not in (('left', 'f'), ('above', 'f', 'a')):
                self.assertEqual(raised(self, BadFact, show_facts, WAYS, (('left', 'f'), value, 0)).number, 1)
            if value != '':
                self.assertEqual(raised(self, BadText, read_facts, WAYS, value).line, 1)


class Orders(unittest.TestCase):
    def test_shown(self):
        order = Order(WAYS, ['a', 'h', 'k', 'f'], ['k', 'f'])
        self.assertEqual(show_order(order), 'order a h k f\nlots f\nlots k')
        self.assertEqual(show_order(order=order), 'order a h k f\nlots f\nlots k')
        self.assertEqual(read_order(WAYS, show_order(order)), order)
        self.assertEqual(read_order(text='order a h k f', signs=WAYS), Order(WAYS, ['a', 'h', 'k', 'f'], []))
        self.assertEqual(show_order(Order(Signs([('a', 0)]), ['a'], [])), 'order a')

    def test_all_orders_and_texts_that_differ(self):
        rng = random.Random(105)
        for order in rng.sample(papers.orders_of(WAYS), 60):
            text = show_order(order)
            self.assertEqual(text, walks.order_text(order))
            self.assertEqual(read_order(WAYS, text), order)
            for other in nearly(rng, text):
                told = walks.read_order(WAYS, other)
                if isinstance(told, int):
                    self.assertEqual(raised(self, BadText, read_order, WAYS, other).line, told)
                else:
                    self.assertEqual(read_order(WAYS, other), told)

    def test_first_line_that_is_wrong(self):
        row = 'order a h k f\n'
        for text, line in (('', 1), ('\n', 1), ('lots f', 1), ('lots f\norder a h k f', 1), ('order', 1), ('order a h k', 1), ('order a h k f f', 1),
                           ('order a h k k', 1), ('order a h k x', 1), ('order  a h k f', 1), ('order a h k f ', 1), ('Order a h k f', 1),
                           ('a h k f', 1), (row, 2), (row + 'lots k\nlots f', 3), (row + 'lots f\nlots f', 3), (row + 'lots a', 2),
                           (row + 'lots x', 2), (row + 'lots', 2), (row + 'lots f k', 2), (row + 'left f', 2), (row + 'lots f\n', 3),
                           (row + '\nlots f', 2), (row + 'lots f\n' + row[:-1], 3), (row + 'lots  f', 2), (row + 'lots f\nlots h\nlots k\nlots k', 5),
                           (row + 'lots f\r', 2), ('order a h k f\x0blots f', 1)):
            self.assertEqual(raised(self, BadText, read_order, WAYS, text).line, line, text)

    def test_no_texts(self):
        for value in ODD:
            self.assertEqual(raised(self, BadText, read_order, WAYS, value).line, 1)


if __name__ == '__main__':
    unittest.main()
