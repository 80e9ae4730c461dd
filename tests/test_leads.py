"""Point 18: leads."""

import random
import unittest

import papers
import plain
import walks
from shutbyrings.books import Book, shows_served, verdict
from shutbyrings.compared import sure
from shutbyrings.errors import BadFact, BadRule, NoFact, NoMark, NoRule, RingError
from shutbyrings.leads import Lead
from shutbyrings.terms import Signs
from values import ODD, changed, raised

SIGNS = Signs([('f', 2), ('g', 1), ('a', 0)])
FLAT = Signs([('a', 0), ('b', 0), ('c', 0)])
A, B, C = ('a',), ('b',), ('c',)


def state(lead):
    """All that is told of a lead, but for its papers."""
    return (lead.numbers, lead.facts, lead.changed, len(lead), lead.sure_now(), lead.book.rules, lead.book.barred,
            [lead[k] for k in lead.numbers], lead.verdict()[0])


class Deeds(unittest.TestCase):
    def setUp(self):
        self.lead = Lead(FLAT)

    def test_a_lead_without_anything(self):
        self.assertIs(self.lead.signs, FLAT)
        self.assertEqual(state(self.lead), ([], (), ([], []), 0, [], [], [], [], 'yes'))
        self.assertEqual(self.lead.book, Book(FLAT, [], []))
        self.assertEqual(Lead(signs=FLAT).verdict()[2], [])

    def test_numbers(self):
        self.assertEqual([self.lead.put((A, B)), self.lead.bar((A, C)), self.lead.put((A, B)), self.lead.bar((A, A))], [0, 1, 2, 3])
        self.assertEqual([self.lead[k] for k in range(4)],
                         [('rule', (A, B)), ('barred', (A, C)), ('rule', (A, B)), ('barred', (A, A))])
        self.assertIsNone(self.lead.withdraw(2))
        self.assertEqual((self.lead.numbers, len(self.lead)), ([0, 1, 3], 3))
        self.assertEqual(self.lead.put((B, C)), 4)
        self.lead.withdraw(4)
        self.assertEqual(self.lead.put(rule=(B, C)), 5)
        self.assertEqual(self.lead.bar(pair=('X', A)), 6)
        self.assertEqual(self.lead.numbers, [0, 1, 3, 5, 6])

    def test_a_number_that_is_gone(self):
        self.lead.put((A, B))
        self.lead.put((A, C))
        self.lead.withdraw(number=0)
        for call in (self.lead.withdraw, lambda number: self.lead[number]):
            for value in ODD + [0, 2, -1, True, '1', (1,), 1.0]:
                if not (type(value) is int and value == 1):
                    self.assertIs(raised(self, NoRule, call, value).number, value)
        self.assertEqual(self.lead.numbers, [1])

    def test_whether_a_number_stands(self):
        self.lead.put((A, B))
        self.lead.bar((A, C))
        self.lead.withdraw(0)
        for value in ODD + [0, 2, -1, '1', (1,), [1], None]:
            self.assertIs(value in self.lead, type(value) is int and value == 1)

    def test_not_iterated_over(self):
        self.lead.put((A, B))
        raised(self, TypeError, list, self.lead)

    def test_rules_and_pairs_that_are_none(self):
        self.lead.put((A, B))
        before = state(self.lead)
        for call in (self.lead.put, self.lead.bar):
            for value in ODD + [[A, B], (A,), (A, B, C), (A, ('d',)), (('g', A), A), (A, 'x'), ('', A), ()]:
                if walks.is_small_term(FLAT, value) or not (type(value) is tuple and len(value) == 2
                                                           and all(walks.is_small_term(FLAT, x) for x in value)):
                    self.assertEqual(raised(self, BadRule, call, value).number, 1)
        self.assertEqual(state(self.lead), before)
        self.assertEqual(self.lead.bar((A, C)), 1)

    def test_claims(self):
        self.assertIs(self.lead.claim(('above', 'b', 'a')), True)
        self.assertIs(self.lead.claim(fact=('above', 'a', 'b')), True)
        self.assertIs(self.lead.claim(('above', 'b', 'a')), False)
        self.assertEqual(self.lead.facts, (('above', 'a', 'b'), ('above', 'b', 'a')))
        self.assertIsNone(self.lead.give_up(('above', 'b', 'a')))
        self.assertEqual(self.lead.facts, (('above', 'a', 'b'),))
        self.assertEqual(raised(self, NoFact, self.lead.give_up, ('above', 'b', 'a')).fact, ('above', 'b', 'a'))
        self.assertIs(self.lead.claim(('above', 'b', 'a')), True)

    def test_facts_that_are_none(self):
        self.lead.claim(('above', 'a', 'b'))
        before = state(self.lead)
        for value in ODD + [('above', 'a', 'a'), ('above', 'a', 'd'), ['above', 'a', 'b'], ('left', 'a'), ('above', 'b')]:
            self.assertEqual(raised(self, BadFact, self.lead.claim, value).number, 0)
        for value in ODD + [('above', 'b', 'a'), ('above', 'a'), ['above', 'a', 'b'], (('above', 'a', 'b'),), ('above', 'a', ['b'])]:
            self.assertIs(raised(self, NoFact, self.lead.give_up, value).fact, value)
        self.assertEqual(state(self.lead), before)
        self.lead.give_up(fact=('above', 'a', 'b'))
        self.assertEqual(self.lead.facts, ())

    def test_marks(self):
        self.assertEqual(self.lead.mark(), 0)
        self.lead.put((A, B))
        self.lead.claim(('above', 'a', 'c'))
        self.assertEqual(self.lead.mark(), 1)
        self.lead.bar((C, A))
        self.lead.withdraw(0)
        self.lead.give_up(('above', 'a', 'c'))
        self.assertEqual(self.lead.mark(), 2)
        self.assertIsNone(self.lead.back_to(1))
        self.assertEqual((self.lead.numbers, self.lead.facts, self.lead[0]), ([0], (('above', 'a', 'c'),), ('rule', (A, B))))
        self.assertEqual(raised(self, NoMark, self.lead.back_to, 2).number, 2)
        self.assertEqual(self.lead.put((B, C)), 2)
        self.assertEqual(self.lead.mark(), 2)
        self.lead.back_to(number=1)
        self.lead.back_to(1)
        self.assertEqual(self.lead.numbers, [0])
        self.lead.back_to(0)
        self.assertEqual((self.lead.numbers, self.lead.facts), ([], ()))
        self.assertEqual(raised(self, NoMark, self.lead.back_to, 1).number, 1)
        self.assertEqual(self.lead.put((A, C)), 3)
        self.assertEqual(self.lead.mark(), 1)
        self.lead.back_to(1)
        self.assertEqual(self.lead.numbers, [3])

    def test_marks_that_are_none(self):
        raised(self, NoMark, self.lead.back_to, 0)
        self.lead.mark()
        self.lead.put((A, B))
        before = state(self.lead)
        for value in ODD + [1, -1, False, '0', (0,)]:
            if not (type(value) is int and value == 0):
                self.assertIs(raised(self, NoMark, self.lead.back_to, value).number, value)
        self.assertEqual(state(self.lead), before)

    def test_a_mark_keeps_what_stood_then(self):
        self.lead.put((A, B))
        self.lead.mark()
        self.lead.claim(('above', 'a', 'c'))
        self.lead.bar((A, B))
        self.lead.back_to(0)
        self.lead.claim(('above', 'b', 'c'))
        self.lead.back_to(0)
        self.assertEqual((self.lead.numbers, self.lead.facts), ([0], ()))

    def test_changed(self):
        self.lead.put((A, B))
        self.assertEqual(self.lead.changed, ([('above', 'a', 'b')], []))
        self.lead.claim(('above', 'b', 'c'))
        self.assertEqual(self.lead.changed, ([('above', 'a', 'c'), ('above', 'b', 'c')], []))
        self.lead.mark()
        self.assertEqual(self.lead.changed, ([('above', 'a', 'c'), ('above', 'b', 'c')], []))
        for call in (lambda: self.lead.claim(1), lambda: self.lead.put(1), lambda: self.lead.withdraw(7), lambda: self.lead[3],
                     lambda: self.lead.give_up(('above', 'a', 'b')), lambda: self.lead.back_to(1), lambda: self.lead.bar((A, 'x'))):
            raised(self, RingError, call)
            self.assertEqual(self.lead.changed, ([('above', 'a', 'c'), ('above', 'b', 'c')], []))
        self.lead.claim(('above', 'b', 'c'))
        self.assertEqual(self.lead.changed, ([], []))
        self.lead.withdraw(0)
        self.assertEqual(self.lead.changed, ([], [('above', 'a', 'b'), ('above', 'a', 'c')]))
        self.lead.back_to(0)
        self.assertEqual(self.lead.changed, ([('above', 'a', 'b'), ('above', 'a', 'c')], []))
        self.lead.bar((B, 'X'))
        self.assertEqual(self.lead.changed, ([], []))
        self.lead.bar((A, C))
        self.assertEqual(self.lead.changed[1], [])
        self.assertEqual(len(self.lead.changed[0]), 3)
        self.lead.give_up(('above', 'b', 'c'))
        self.assertEqual(self.lead.changed, ([], [('above', 'a', 'c'), ('above', 'b', 'a'), ('above', 'b', 'c')]))

    def test_lists_are_new(self):
        self.lead.put((A, B))
        told = state(self.lead)
        for row in (self.lead.numbers, self.lead.changed[0], self.lead.changed[1], self.lead.sure_now(), self.lead.book.rules,
                    self.lead.verdict()[2]):
            row.append(None)
        self.assertEqual(state(self.lead), told)
        for name in ('numbers', 'facts', 'book', 'changed'):
            with self.assertRaises(AttributeError):
                setattr(self.lead, name, None)

    def test_a_book_that_was_told_stays(self):
        self.lead.put((A, B))
        self.lead.bar((B, C))
        book = self.lead.book
        self.assertIsNot(book, self.lead.book)
        self.lead.withdraw(0)
        self.lead.put((C, B))
        self.assertEqual((book.rules, book.barred), ([(A, B)], [(B, C)]))
        self.assertEqual(self.lead.book.rules, [(C, B)])


class Papers(unittest.TestCase):
    def test_trees_with_the_numbers_of_the_lead(self):
        lead = Lead(FLAT)
        lead.bar((A, 'X'))
        lead.put((C, B))
        lead.put((B, A))
        lead.bar((C, A))
        lead.withdraw(0)
        lead.withdraw(1)
        lead.put((C, B))
        lead.put((A, A))
        lead.withdraw(5)
        word, tree = lead.verdict()
        self.assertEqual(word, 'no')
        self.assertTrue(lead.shows_shut(tree))
        below = [((('above', 'b', 'a'),), ('rule', 4, [((('above', 'c', 'b'),), ('above', 'c', 'a', ('held', 3, 0), ('ring', ['a', 'c', 'b'])))]))]
        right = ('rule', 2, below)
        self.assertTrue(lead.shows_shut(right))
        for value in (('rule', 0, below), ('rule', 1, below), ('rule', 3, below), ('held', 3, 0), ('rule', True, below)):
            self.assertFalse(lead.shows_shut(value))
        self.assertFalse(lead.shows_shut(('rule', 2, [(below[0][0], ('rule', 4, [((('above', 'c', 'b'),), ('above', 'c', 'a', ('held', 1, 0), ('ring', ['a', 'c', 'b'])))]))])))
        self.assertFalse(lead.shows_shut(verdict(lead.book)[1]))

    def test_a_tree_stays_right(self):
        lead = Lead(FLAT)
        lead.put((A, B))
        lead.claim(('above', 'b', 'c'))
        lead.bar((A, C))
        tree = lead.verdict()[1]
        lead.put((C, B))
        lead.claim(('above', 'a', 'c'))
        lead.bar((B, 'X'))
        lead.mark()
        self.assertTrue(lead.shows_shut(value=tree))
        lead.withdraw(2)
        self.assertTrue(lead.shows_shut(tree))
        lead.withdraw(1)
        self.assertFalse(lead.shows_shut(tree))
        lead.bar((A, C))
        self.assertFalse(lead.shows_shut(tree))
        lead.back_to(0)
        self.assertTrue(lead.shows_shut(tree))
        lead.give_up(('above', 'b', 'c'))
        self.assertFalse(lead.shows_shut(tree))

    def test_orders_with_steps(self):
        lead = Lead(SIGNS)
        lead.put((('f', 'X', 'Y'), ('g', 'Y')))
        lead.bar((A, A))
        lead.put((('g', 'X'), 'X'))
        lead.claim(('lots', 'f'))
        word, order, told = lead.verdict()
        self.assertEqual((word, len(told)), ('yes', 2))
        self.assertTrue(shows_served(lead.book, (order, told), facts=lead.facts))

    def test_facts_that_clash(self):
        lead = Lead(SIGNS)
        lead.claim(('lots', 'f'))
        lead.claim(('left', 'f'))
        self.assertEqual(lead.verdict(), ('no', ('ways', 'f')))
        self.assertTrue(lead.shows_shut(('ways', 'f')))
        self.assertEqual(lead.sure_now(), plain.all_facts(SIGNS))
        lead.give_up(('lots', 'f'))
        self.assertFalse(lead.shows_shut(('ways', 'f')))

    def test_values_of_many_forms(self):
        lead = Lead(FLAT)
        lead.bar((A, 'X'))
        lead.put((A, A))
        lead.withdraw(0)
        for value in ODD:
            for told in (value, ('rule', value, []), ('rule', 1, value), ('held', value, 0), ('rule', 1, [value]), ('ring', value)):
                right = papers.is_small(told) and repr(told) == "('rule', 1, [])"
                self.assertIs(lead.shows_shut(told), right)
        self.assertTrue(lead.shows_shut(('rule', 1, [])))


class AgainstPlainLeads(unittest.TestCase):
    """Rows of deeds, drawn, with a lead of plain lists beside the lead."""

    def deed(self, rng, lead, other):
        signs = lead.signs
        word = rng.choice(['put', 'put', 'bar', 'withdraw', 'claim', 'claim', 'give_up', 'mark', 'back_to', 'copy'])
        if word in ('put', 'bar'):
            pair = papers.drawn_pair(rng, signs, 2)
            return getattr(lead, word)(pair), other.do(lambda: other.take('rule' if word == 'put' else 'barred', pair))
        if word == 'withdraw' and other.rows:
            number = rng.choice(list(other.rows))
            return lead.withdraw(number), other.do(lambda: other.rows.pop(number) and None)
        if word == 'claim' and plain.all_facts(signs):
            fact = rng.choice(plain.all_facts(signs))
            return lead.claim(fact), other.do(lambda: other.claim(fact))
        if word == 'give_up' and other.facts:
            fact = rng.choice(other.facts)
            return lead.give_up(fact), other.do(lambda: other.facts.remove(fact))
        if word == 'mark':
            return lead.mark(), other.mark()
        if word == 'back_to' and other.marks:
            number = rng.randrange(len(other.marks))
            return lead.back_to(number), other.do(lambda: other.back_to(number))
        return None, None

    def compare(self, lead, other):
        book = other.book()
        self.assertEqual((lead.book, lead.facts), (book, tuple(sorted(other.facts))))
        self.assertEqual((lead.numbers, len(lead)), (list(other.rows), len(other.rows)))
        self.assertEqual([lead[k] for k in lead.numbers], list(other.rows.values()))
        self.assertEqual(lead.changed, other.changed)
        self.assertEqual(lead.sure_now(), other.sure())
        self.assertEqual(lead.sure_now(), sure(book, facts=lead.facts))
        told = lead.verdict()
        self.assertEqual(told[0], verdict(book, facts=lead.facts)[0])
        if told[0] == 'yes':
            self.assertTrue(papers.shows_served(book, lead.facts, told[1:]))
        else:
            self.assertTrue(other.shows_shut(told[1]))
            self.assertIs(lead.shows_shut(told[1]), True)
        return told[0]

    def test_rows_of_deeds(self):
        rng = random.Random(91)
        words = []
        for _ in range(60):
            signs = Signs(rng.choice(papers.KINDS))
            leads = [(Lead(signs), walks.PlainLead(signs))]
            for _ in range(14):
                lead, other = rng.choice(leads)
                told = self.deed(rng, lead, other)
                self.assertEqual(*told)
                if rng.random() < 0.1:
                    leads.append((lead.copy(), other.copied()))
                for pair in leads:
                    words.append(self.compare(*pair))
        self.assertTrue(100 < words.count('no') < len(words) - 100)

    def test_trees_with_a_part_otherwise(self):
        rng = random.Random(92)
        many = 0
        for _ in range(80):
            signs = Signs(rng.choice(papers.KINDS))
            lead, other = Lead(signs), walks.PlainLead(signs)
            for _ in range(9):
                self.deed(rng, lead, other)
            told = lead.verdict()
            if told[0] == 'no' and len(repr(told)) < 250:
                for value in changed(told[1]):
                    right = other.shows_shut(value)
                    self.assertIs(lead.shows_shut(value), right, value)
                    many += right
        self.assertGreater(many, 50)


class Copies(unittest.TestCase):
    def test_independent(self):
        lead = Lead(FLAT)
        lead.mark()
        lead.put((A, B))
        lead.claim(('above', 'b', 'c'))
        lead.mark()
        lead.bar((C, A))
        told = lead.copy()
        self.assertIsInstance(told, Lead)
        self.assertEqual(state(told), state(lead))
        self.assertIs(told.signs, FLAT)
        before = state(lead)
        self.assertEqual((told.put((A, C)), told.mark()), (3 - 1, 2))
        told.withdraw(0)
        told.give_up(('above', 'b', 'c'))
        told.back_to(0)
        self.assertEqual((told.numbers, told.facts), ([], ()))
        self.assertEqual(state(lead), before)
        self.assertEqual((lead.put((B, A)), lead.mark()), (2, 2))
        lead.back_to(1)
        self.assertEqual(lead.numbers, [0])
        raised(self, NoMark, told.back_to, 1)
        self.assertEqual(told.put((A, B)), 3)

    def test_change_and_marks_are_copied(self):
        lead = Lead(FLAT)
        lead.put((A, B))
        lead.mark()
        told = lead.copy()
        self.assertEqual(told.changed, ([('above', 'a', 'b')], []))
        lead.withdraw(0)
        self.assertEqual(told.changed, ([('above', 'a', 'b')], []))
        told.withdraw(0)
        told.back_to(0)
        self.assertEqual(told.numbers, [0])
        self.assertEqual(lead.numbers, [])
        told.changed[0].clear()
        self.assertEqual(len(told.changed[0]), 1)


if __name__ == '__main__':
    unittest.main()
