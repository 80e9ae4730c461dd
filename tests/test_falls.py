"""Point 17: steps of terms by the rules of a book, falls, and longest ones."""

import random
import unittest

import papers
import plain
import walks
from shutbyrings.books import Book, shows_shut, verdict
from shutbyrings.errors import BadTerm, NotServed, TooMany
from shutbyrings.falls import longest_fall, matched, next_steps, shows_fall, shows_longest
from shutbyrings.terms import Signs, put
from values import ODD, changed, nested, raised

SIGNS = Signs([('f', 2), ('g', 1), ('a', 0), ('b', 0)])
A, B = ('a',), ('b',)
DROP = Book(SIGNS, [(('g', 'X'), 'X')], [])


def g(term, many=1):
    for _ in range(many):
        term = ('g', term)
    return term


def drawn_book(rng, signs, most=3):
    return Book(signs, [drawn_rule(rng, signs) for _ in range(rng.randrange(most) + 1)], [])


def drawn_rule(rng, signs):
    """A rule; most often it is used, and runs downhill under some order."""
    while True:
        s = plain.drawn(rng, signs, ['X', 'Y'], rng.choice([2, 2, 3]))
        names = sorted(walks.variables(s)) or ['X']
        t = plain.drawn(rng, signs, names if rng.random() < 0.95 else ['Y'], rng.choice([1, 2, 2, 3]))
        if papers.needs(signs, s, t) or rng.random() < 0.05:
            return s, t


def drawn_term(rng, signs, levels):
    """A term that is rather large."""
    return max([plain.drawn(rng, signs, ['X', 'Z'], levels) for _ in range(4)], key=lambda x: len(repr(x)))


KINDS = [[('f', 2), ('g', 1), ('a', 0), ('b', 0)], [('g', 1), ('a', 0)], [('f', 2), ('a', 0)], [('h', 3), ('a', 0), ('b', 0)],
         [('a', 0), ('b', 0), ('c', 0)], [('f', 2), ('g', 1)]]


class Matched(unittest.TestCase):
    def test_variables_of_left(self):
        self.assertEqual(matched(('f', 'X', ('g', 'Y')), ('f', A, ('g', ('g', B))), {}), {'X': A, 'Y': ('g', B)})
        self.assertEqual(matched('X', ('g', 'X'), {}), {'X': ('g', 'X')})
        self.assertEqual(matched(A, A, {}), {})
        self.assertEqual(matched(left=('g', 'X'), given={}, term=('g', 'Y')), {'X': 'Y'})

    def test_none(self):
        for left, term in ((('g', 'X'), A), (('g', 'X'), 'X'), (A, B), (A, 'A'), (('f', 'X', 'X'), ('f', A, B)),
                           (('g', ('g', 'X')), ('g', A)), (('f', 'X', A), ('f', A, 'X')), (('g', A), ('g', 'X'))):
            self.assertIsNone(matched(left, term, {}))
        self.assertIsNone(matched(('f', 'X'), ('f', 'X', 'Y'), {}))
        self.assertIsNone(matched(('f', 'X', 'Y'), ('f', 'X'), {}))

    def test_the_same_variable_twice(self):
        term = ('f', ('g', 'Y'), ('g', 'Y'))
        self.assertEqual(matched(('f', 'X', 'X'), term, {}), {'X': ('g', 'Y')})
        self.assertIsNone(matched(('f', 'X', 'X'), ('f', ('g', 'Y'), ('g', 'Z')), {}))

    def test_given_made_longer(self):
        given = {'Z': B, 'X': A}
        self.assertEqual(matched(('f', 'X', 'Y'), ('f', A, 'Q'), given), {'Z': B, 'X': A, 'Y': 'Q'})
        self.assertIsNone(matched(('f', 'X', 'Y'), ('f', B, 'Q'), given))
        self.assertEqual(matched(A, A, given), given)
        self.assertEqual(given, {'Z': B, 'X': A})
        told = matched('X', A, given)
        self.assertIsNot(told, given)
        told['Y'] = B
        self.assertEqual(given, {'Z': B, 'X': A})
        self.assertEqual(matched('X', 'X', {'X': 'X'}), {'X': 'X'})
        self.assertIsNone(matched('X', 'Y', {'X': 'X'}))

    def test_against_plain_matching(self):
        rng = random.Random(71)
        many = 0
        for _ in range(1500):
            signs = Signs(rng.choice(KINDS))
            left = plain.drawn(rng, signs, ['X', 'Y'], 3)
            term = plain.drawn(rng, signs, ['X', 'Y', 'Z'], 4)
            if rng.random() < 0.5:
                term = put(left, {name: plain.drawn(rng, signs, ['X', 'Z'], 2) for name in 'XY'})
            given = {name: plain.drawn(rng, signs, ['X', 'Y'], 2) for name in rng.sample('XYZ', rng.choice([0, 0, 1]))}
            told = matched(left, term, given)
            self.assertEqual(told, walks.matched(left, term, given))
            if told is not None:
                many += 1
                self.assertEqual(put(left, told), term)
        self.assertTrue(400 < many < 1400)

    def test_deep(self):
        deep = nested(3000, lambda x: ('g', x))
        self.assertEqual(matched(deep, put(deep, {'X': A}), {}), {'X': A})
        self.assertIsNone(matched(deep, nested(2999, lambda x: ('g', x)), {}))
        told = matched(('f', 'X', 'X'), ('f', deep, nested(3000, lambda x: ('g', x))), {})
        self.assertEqual(list(told), ['X'])


class Steps(unittest.TestCase):
    def test_ascending_by_path_then_number(self):
        book = Book(SIGNS, [(('g', 'X'), 'X'), (('f', 'X', 'Y'), 'Y'), (('g', A), B), (('f', 'X', 'Y'), 'X')], [])
        term = ('f', g(A), g(g(A)))
        self.assertEqual(next_steps(book, term), [
            ((), 1, g(g(A))), ((), 3, g(A)), ((0,), 0, ('f', A, g(g(A)))), ((0,), 2, ('f', B, g(g(A)))),
            ((1,), 0, ('f', g(A), g(A))), ((1, 0), 0, ('f', g(A), g(A))), ((1, 0), 2, ('f', g(A), g(B)))])

    def test_rules_that_are_not_used(self):
        book = Book(SIGNS, [('X', A), (('g', 'X'), 'Y'), (A, ('f', A, 'X')), (('g', 'X'), ('f', 'X', 'X')), ('X', 'X')], [])
        self.assertEqual(next_steps(book, g(A)), [((), 3, ('f', A, A))])
        self.assertEqual(next_steps(book, 'X'), [])
        self.assertEqual(next_steps(book, A), [])

    def test_rules_that_turn_nothing(self):
        book = Book(SIGNS, [(A, A), (('g', 'X'), ('g', 'X'))], [])
        self.assertEqual(next_steps(book, g(A)), [((), 1, g(A)), ((0,), 0, g(A))])

    def test_variables_of_the_term_are_left_as_they_are(self):
        book = Book(SIGNS, [(('f', 'X', 'Y'), ('f', 'Y', 'X')), (('g', A), A)], [])
        self.assertEqual(next_steps(book, ('f', 'X', 'Y')), [((), 0, ('f', 'Y', 'X'))])
        self.assertEqual(next_steps(book, ('f', 'Y', 'Z')), [((), 0, ('f', 'Z', 'Y'))])
        self.assertEqual(next_steps(book, g('X')), [])

    def test_a_term_that_no_step_leads_away_from(self):
        for term in ('X', A, ('f', A, 'X')):
            self.assertEqual(next_steps(DROP, term), [])
            self.assertEqual(longest_fall(DROP, term), ([], [(term, 0)]))
            self.assertEqual(next_steps(Book(SIGNS, [], []), g(term)), [])

    def test_barred_pairs_make_no_steps(self):
        self.assertEqual(next_steps(Book(SIGNS, [], [(A, g(A))]), A), [])

    def test_against_plain_steps(self):
        rng = random.Random(72)
        many = 0
        for _ in range(500):
            signs = Signs(rng.choice(KINDS))
            book = drawn_book(rng, signs, 4)
            term = drawn_term(rng, signs, 5)
            told = next_steps(term=term, book=book)
            self.assertEqual(told, walks.steps(book, term))
            many += len(told)
        self.assertGreater(many, 1000)

    def test_downhill(self):
        rng = random.Random(73)
        many = 0
        for _ in range(300):
            signs = Signs(rng.choice(KINDS))
            book = drawn_book(rng, signs, 2)
            for order in papers.serving(book)[:2]:
                term = drawn_term(rng, signs, 4)
                for _, _, told in next_steps(book, term):
                    self.assertTrue(order(term, told))
                    many += 1
        self.assertGreater(many, 300)

    def test_lists_are_new(self):
        for _ in range(2):
            told = next_steps(DROP, g(A))
            self.assertEqual(told, [((), 0, A)])
            told.clear()


class Longest(unittest.TestCase):
    def test_against_a_plain_trial(self):
        rng = random.Random(74)
        lengths, many = [], 0
        for _ in range(600):
            signs = Signs(rng.choice(KINDS))
            book = drawn_book(rng, signs)
            term = drawn_term(rng, signs, rng.choice([4, 4, 5]))
            served = len(papers.serving(book)) > 0
            found = walks.reached(book, term, 30) if served else None
            if not served:
                tree = raised(self, NotServed, longest_fall, book, term, most=30).tree
                self.assertTrue(shows_shut(book, tree))
                self.assertTrue(papers.shows_tree(book, (), tree))
            elif found is None:
                raised(self, TooMany, longest_fall, book, term, most=30)
                many += 1
            else:
                fall, heights = longest_fall(book, term, most=30)
                self.assertEqual(dict(heights), {x: walks.height(found, x) for x in found})
                self.assertEqual((len(heights), len(fall)), (len(found), walks.height(found, term)))
                self.assertTrue(walks.longest_shown(book, term, (fall, heights)))
                self.assertIs(shows_fall(book, term, fall), True)
                self.assertIs(shows_longest(book, term, (fall, heights)), True)
                lengths.append(len(fall))
        self.assertGreater(len([length for length in lengths if length > 2]), 60)
        self.assertGreater(many, 5)

    def test_plain_ones(self):
        self.assertEqual(longest_fall(DROP, g(A, 2)), (longest_fall(DROP, g(A, 2))[0], [(g(A, 2), 2), (g(A), 1), (A, 0)]))
        book = Book(SIGNS, [(('f', 'X', 'Y'), 'X'), (('f', 'X', 'Y'), 'Y'), (('g', 'X'), 'X')], [])
        fall, heights = longest_fall(term=('f', g(A), B), book=book)
        self.assertEqual(dict(heights), {('f', g(A), B): 2, ('f', A, B): 1, g(A): 1, A: 0, B: 0})
        self.assertIn(fall[0], (((), 0, g(A)), ((0,), 2, ('f', A, B))))
        self.assertEqual(len(fall), 2)

    def test_a_longer_way_to_the_same_term(self):
        book = Book(Signs([('a', 0), ('b', 0), ('c', 0), ('d', 0)]), [(A, ('d',)), (A, B), (B, ('c',)), (('c',), ('d',))], [])
        fall, heights = longest_fall(book, A)
        self.assertEqual(fall, [((), 1, B), ((), 2, ('c',)), ((), 3, ('d',))])
        self.assertEqual(sorted(heights), [(A, 3), (B, 2), (('c',), 1), (('d',), 0)])

    def test_bound_just_reached_and_just_passed(self):
        for many in range(5):
            term = g(A, many)
            self.assertEqual(len(longest_fall(DROP, term, most=many + 1)[0]), many)
            raised(self, TooMany, longest_fall, DROP, term, most=many)
        self.assertEqual(len(longest_fall(DROP, g(A, 99))[1]), 100)
        raised(self, TooMany, longest_fall, DROP, g(A, 100))
        self.assertEqual(len(longest_fall(DROP, g(A, 300), most=301)[0]), 300)
        raised(self, TooMany, longest_fall, DROP, A, most=0)
        raised(self, TooMany, longest_fall, DROP, A, most=-1)

    def test_bound_where_steps_come_together(self):
        book = Book(Signs([('f', 2), ('a', 0), ('b', 0)]), [(A, B)], [])
        term = ('f', ('f', A, A), ('f', A, A))
        self.assertEqual(len(longest_fall(book, term, most=16)[1]), 16)
        raised(self, TooMany, longest_fall, book, term, most=15)
        raised(self, TooMany, longest_fall, book, term, most=3)

    def test_barred_pairs_count_for_what_serves(self):
        book = Book(SIGNS, [(('g', 'X'), 'X')], [(g(A), A)])
        tree = raised(self, NotServed, longest_fall, book, g(A)).tree
        self.assertTrue(shows_shut(book, tree))
        self.assertEqual(len(next_steps(book, g(A))), 1)
        self.assertEqual(tree, verdict(book)[1])

    def test_not_served_ahead_of_too_many(self):
        book = Book(SIGNS, [(A, A), (('g', 'X'), 'X')], [])
        raised(self, NotServed, longest_fall, book, g(A, 200))
        raised(self, NotServed, longest_fall, book, A, most=0)
        raised(self, NotServed, longest_fall, Book(SIGNS, [('X', A)], []), 'Y')

    def test_heights_hold_the_reached_terms_alone(self):
        rows = longest_fall(DROP, ('f', g(A), A))[1]
        self.assertEqual(sorted(rows), [(('f', A, A), 0), (('f', g(A), A), 1)])

    def test_same_answer_in_new_lists(self):
        book = Book(SIGNS, [(('f', 'X', 'Y'), 'X'), (('f', 'X', 'Y'), 'Y'), (('g', 'X'), 'X')], [])
        term = ('f', ('f', g(A), B), g(B))
        first = longest_fall(book, term)
        for again in (book, Book(Signs([('f', 2), ('g', 1), ('a', 0), ('b', 0)]), book.rules, [])):
            told = longest_fall(again, term)
            self.assertEqual(told, first)
            told[0].clear()
            told[1].clear()

    def test_terms_that_double_at_each_step(self):
        signs = Signs([('h', 3), ('f', 2), ('s', 1), ('a', 0)])
        book = Book(signs, [(('h', ('s', 'X'), 'Y', 'Z'), ('h', 'X', ('s', ('s', ('s', ('s', 'Y')))), ('f', 'Z', 'Z'))),
                            (('h', 'X', ('s', 'Y'), 'Z'), ('h', 'X', 'Y', ('f', 'Z', 'Z')))], [])
        start = A
        for _ in range(4):
            start = ('s', start)
        self.assertEqual(len(longest_fall(book, ('h', start, A, A), most=300)[0]), 20)


class Shown(unittest.TestCase):
    def small(self, rng):
        """A small book, a term, and a fall with heights that need not be told of a book that is served."""
        while True:
            signs = Signs(rng.choice(KINDS))
            book = drawn_book(rng, signs)
            term = plain.drawn(rng, signs, ['X'], 4)
            found = walks.reached(book, term, 6)
            if found and papers.serving(book) and len(found) > 1:
                return book, term, longest_fall(book, term)

    def test_papers_with_a_part_otherwise(self):
        rng = random.Random(75)
        for _ in range(60):
            book, term, told = self.small(rng)
            if len(repr(told)) < 220:
                for value in changed(told):
                    self.assertIs(shows_longest(book, term, value), walks.longest_shown(book, term, value), value)
                for value in changed(told[0]):
                    self.assertIs(shows_fall(book, term, value), walks.fall_shown(book, term, value), value)

    def test_falls_that_are_not_longest(self):
        book = Book(SIGNS, [(('g', 'X'), 'X'), (('g', ('g', 'X')), 'X')], [])
        term = g(A, 2)
        fall, heights = longest_fall(book, term)
        short = [((), 1, A)]
        self.assertTrue(shows_fall(book, term, short))
        self.assertTrue(shows_fall(book, term, []))
        self.assertTrue(shows_fall(book, term, fall[:1]))
        for told in (short, [], fall[:1]):
            self.assertFalse(shows_longest(book, term, (told, heights)))
            self.assertFalse(shows_longest(book, term, (told, [(term, len(told)), (g(A), 0), (A, 0)])))
        self.assertFalse(shows_longest(book, A, (fall, heights)))
        self.assertTrue(shows_longest(book, A, ([], heights)))

    def test_heights_of_more_terms_and_greater_ones(self):
        term = g(A)
        fall = longest_fall(DROP, term)[0]
        for heights, right in (
                ([(term, 1), (A, 0)], True), ([(A, 0), (term, 1)], True), ([(term, 1)], False), ([(A, 0)], False), ([], False),
                ([(term, 1), (A, 0), (B, 7), ('X', 10 ** 39)], True), ([(term, 1), (A, 0), (g('Y', 2), 5)], False),
                ([(term, 1), (A, 0), (g('Y'), 5), ('Y', 4)], True), ([(term, 1), (A, 0), (g('Y'), 4), ('Y', 4)], False),
                ([(term, 2), (A, 0)], False), ([(term, 2), (A, 1)], False), ([(term, 1), (A, 1)], False),
                ([(term, 1), (A, -1)], False), ([(term, True), (A, 0)], False), ([(term, 1), (A, False)], False),
                ([(term, 1), (A, 0), (A, 0)], False), ([(term, 1), (A, 0), (term, 1)], False), (((term, 1), (A, 0)), False),
                ([[term, 1], (A, 0)], False), ([(term, 1), (A, 0, 0)], False), ([(term, 1), (['a'], 0)], False),
                ([(term, 1), (A, 0), (('c',), 0)], False), ([(term, 1), (A, 0), 'X'], False), ({term: 1, A: 0}, False),
                ([(term, '1'), (A, 0)], False), ([(term, 1), (A, None)], False)):
            self.assertIs(shows_longest(DROP, term, (fall, heights)), right, heights)
        self.assertFalse(shows_longest(DROP, term, [fall, [(term, 1), (A, 0)]]))
        self.assertFalse(shows_longest(DROP, term, (fall, [(term, 1), (A, 0)], None)))

    def test_heights_of_far_fewer_terms(self):
        term = ('f', ('f', g(A), g(B)), g(g(B)))
        fall, heights = longest_fall(DROP, term)
        self.assertEqual((len(fall), len(heights)), (4, 12))
        self.assertTrue(shows_longest(DROP, term, (fall, heights)))
        for many in range(len(heights)):
            rows = [row for row in heights if row[0] != term]
            self.assertFalse(shows_longest(DROP, term, (fall, rows[:many])))
            self.assertFalse(shows_longest(DROP, term, (fall, [(term, 4)] + rows[:many][:-1])))

    def test_books_that_no_order_serves(self):
        two = Signs([('a', 0), ('b', 0), ('c', 0)])
        c = ('c',)
        book = Book(two, [(A, B), (B, c), ('X', A)], [(A, B)])
        fall = [((), 0, B), ((), 1, c)]
        self.assertTrue(shows_longest(book, A, (fall, [(A, 2), (B, 1), (c, 0)])))
        ring = Book(two, [(A, B), (B, A)], [])
        self.assertTrue(shows_fall(ring, A, [((), 0, B), ((), 1, A), ((), 0, B)]))
        for heights in ([(A, 1), (B, 0)], [(A, 1), (B, 2)], [(A, 1)]):
            self.assertFalse(shows_longest(ring, A, ([((), 0, B)], heights)))
        still = Book(two, [(A, A)], [])
        self.assertTrue(shows_fall(still, A, [((), 0, A)] * 3))
        self.assertFalse(shows_longest(still, A, ([], [(A, 0)])))
        self.assertTrue(shows_longest(still, B, ([], [(B, 0)])))

    def test_steps_that_are_none(self):
        book = Book(SIGNS, [(('g', 'X'), 'X'), ('X', A), (('g', 'X'), 'Y'), (B, A)], [])
        term = ('f', g(B), g(A))
        good = ((0,), 0, ('f', B, g(A)))
        self.assertTrue(shows_fall(book, term, [good]))
        for step in (((0,), 0, ('f', B, A)), ((0,), 3, ('f', A, g(A))), ((0, 0), 0, ('f', g(B), g(A))), ((), 1, A), ((0,), 2, 'Y'),
                     ((0,), 2, ('f', 'Y', g(A))), ([0], 0, good[2]), ((False,), 0, good[2]), ((0,), False, good[2]),
                     ((0,), '0', good[2]), ((0,), 4, good[2]), ((0,), -4, good[2]), ((-2,), 0, good[2]), ((2,), 0, good[2]),
                     ((0, 0, 0), 0, good[2]), ('', 0, good[2]), (None, 0, good[2]), ((0,), 0, list(good[2])), ((0,), 0, None),
                     ((0,), None, good[2]), (((0,),), 0, good[2]), list(good), good[:2], good + (0,), None, (), 0):
            self.assertFalse(shows_fall(book, term, [step]), step)
        self.assertTrue(shows_fall(book, term, [good, ((0,), 3, ('f', A, g(A))), ((1,), 0, ('f', A, A))]))
        self.assertFalse(shows_fall(book, term, [((0,), 3, ('f', A, g(A))), good]))
        self.assertFalse(shows_fall(book, term, [good, good]))
        self.assertFalse(shows_fall(book, term, (good,)))

    def test_values_of_many_forms(self):
        term = g(A)
        fall, heights = longest_fall(DROP, term)
        for value in ODD:
            if value != []:
                self.assertIs(shows_fall(DROP, term, value), False)
            self.assertIs(shows_longest(DROP, term, value), False)
            for told in ((value, heights), (fall, value), (fall, [value]), (fall, heights + [value]), (fall, heights + [(value, -1)]),
                         (fall, [(term, value), (A, 0)]), ([value], heights), ([(value, 0, A)], heights)):
                right = papers.is_small(told) and walks.longest_shown(DROP, term, told)
                self.assertIs(shows_longest(DROP, term, told), right)
            for step in ((value, 0, A), ((), value, A), ((), 0, value), ((value,), 0, A)):
                self.assertIs(shows_fall(DROP, term, [step]), papers.is_small(value) and walks.fall_shown(DROP, term, [step]))

    def test_values_are_left_as_they_are(self):
        fall, heights = longest_fall(DROP, g(A, 2))
        kept = list(fall), list(heights)
        shows_longest(DROP, g(A, 2), (fall, heights))
        shows_fall(DROP, g(A, 2), fall)
        self.assertEqual((fall, heights), kept)


class Wrong(unittest.TestCase):
    def test_no_term_first(self):
        shut = Book(SIGNS, [(A, A)], [])
        for value in ODD:
            if walks.is_small_term(SIGNS, value):
                continue
            for call in (lambda term: next_steps(shut, term), lambda term: longest_fall(shut, term, most=0),
                         lambda term: shows_fall(shut, term, None), lambda term: shows_longest(shut, term, None)):
                self.assertIs(raised(self, BadTerm, call, value).value, value)
        for call in (next_steps, longest_fall):
            self.assertEqual(raised(self, BadTerm, call, DROP, ('g', 'x')).value, ('g', 'x'))

    def test_most_by_name_alone(self):
        with self.assertRaises(TypeError):
            longest_fall(DROP, A, 5)


class Deep(unittest.TestCase):
    def test_told_terms_handed_on(self):
        deep = put(nested(300, lambda x: ('g', x)), {'X': A})
        told = next_steps(DROP, deep)
        self.assertEqual((len(told), told[0][0], len(told[-1][0])), (300, (), 299))
        fall, heights = longest_fall(DROP, deep, most=301)
        self.assertTrue(shows_longest(DROP, deep, (fall, heights)))
        self.assertTrue(shows_fall(DROP, deep, fall))
        self.assertFalse(shows_fall(DROP, deep, fall[1:]))
        raised(self, TooMany, longest_fall, DROP, deep)

    def test_very_deep_terms(self):
        deep = put(nested(4000, lambda x: ('g', x)), {'X': A})
        book = Book(SIGNS, [(('g', A), B)], [])
        self.assertEqual([(len(path), k) for path, k, _ in next_steps(book, deep)], [(3999, 0)])
        fall, heights = longest_fall(book, deep)
        self.assertEqual(len(fall), 1)
        self.assertTrue(shows_longest(book, deep, (fall, heights)))


if __name__ == '__main__':
    unittest.main()
