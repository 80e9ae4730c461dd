"""The whole document once more: points 2, 3, 11, 12, 20 and 21 over all of the interface."""

import inspect
import random
import unittest

import papers
import plain
import walks
from shutbyrings import books, compared, errors, facts, falls, leads, least, numbers, orders, terms, texts, told
from shutbyrings.books import Book
from shutbyrings.leads import Lead
from shutbyrings.orders import Order
from shutbyrings.terms import Signs
from values import ODD

SIGNS = Signs([('f', 2), ('g', 1), ('a', 0)])
A = ('a',)
GX = ('g', 'X')
FXY = ('f', 'X', 'Y')
ORDER = Order(SIGNS, ['f', 'g', 'a'], [])
BOOK = Book(SIGNS, [(FXY, GX), (GX, 'X')], [(GX, FXY)])
SHUT = Book(SIGNS, [(FXY, GX), (GX, 'X')], [(FXY, 'X')])
KNOWN = (('above', 'g', 'a'),)
AGAINST = (('above', 'g', 'f'),)

# Each function of the interface with its arguments in the order of the interface; those behind None by name alone.
CALLS = [
    (terms.Signs, {'pairs': [('f', 2), ('a', 0)]}),
    (SIGNS.arity, {'name': 'f'}),
    (terms.is_term, {'signs': SIGNS, 'value': FXY}),
    (terms.parts, {'term': FXY}),
    (terms.variables, {'term': FXY}),
    (terms.size, {'term': FXY}),
    (terms.put, {'term': FXY, 'given': {'X': A}}),
    (orders.Order, {'signs': SIGNS, 'names': ['f', 'a', 'g'], 'lots': ['f']}),
    (ORDER, {'s': FXY, 't': GX}),
    (orders.steps, {'order': ORDER, 's': FXY, 't': GX}),
    (orders.shows_steps, {'order': ORDER, 's': FXY, 't': GX, 'value': ('sign', [('part', 0, None)])}),
    (facts.is_fact, {'signs': SIGNS, 'value': ('left', 'f')}),
    (facts.opposite, {'fact': ('above', 'f', 'g')}),
    (facts.follows, {'facts': (('above', 'f', 'g'), ('above', 'g', 'a')), 'fact': ('above', 'f', 'a')}),
    (facts.clash, {'signs': SIGNS, 'facts': KNOWN + (('above', 'a', 'g'),)}),
    (facts.shows_clash, {'signs': SIGNS, 'facts': KNOWN + (('above', 'a', 'g'),), 'value': ('ring', ['a', 'g'])}),
    (facts.order_of, {'signs': SIGNS, 'facts': KNOWN}),
    (facts.fits, {'order': ORDER, 'facts': KNOWN}),
    (facts.needs, {'signs': SIGNS, 's': FXY, 't': GX}),
    (books.Book, {'signs': SIGNS, 'rules': [(FXY, 'X')], 'barred': [('X', FXY)]}),
    (BOOK.without, {'numbers': [0]}),
    (BOOK.turned, {'numbers': [1]}),
    (books.unserved, {'order': ORDER, 'book': SHUT}),
    (books.verdict, {'book': BOOK, None: None, 'facts': KNOWN}),
    (books.verdict, {'book': BOOK, None: None, 'facts': AGAINST}),
    (books.shows_served, {'book': BOOK, 'value': books.verdict(BOOK, facts=KNOWN)[1:], None: None, 'facts': KNOWN}),
    (books.shows_shut, {'book': BOOK, 'value': books.verdict(BOOK, facts=AGAINST)[1], None: None, 'facts': AGAINST}),
    (compared.compared, {'signs': SIGNS, 's': FXY, 't': GX, None: None, 'facts': AGAINST}),
    (compared.compared, {'signs': SIGNS, 's': FXY, 't': GX, None: None, 'facts': KNOWN}),
    (compared.compared, {'signs': SIGNS, 's': FXY, 't': GX, None: None, 'facts': AGAINST + (('above', 'f', 'g'),)}),
    (compared.shows_compared, {'signs': SIGNS, 's': FXY, 't': GX, None: None, 'facts': AGAINST,
                               'value': compared.compared(SIGNS, FXY, GX, facts=AGAINST)}),
    (compared.fates, {'book': BOOK, None: None, 'facts': KNOWN}),
    (compared.sure, {'book': BOOK, None: None, 'facts': KNOWN}),
    (compared.shows_fate, {'book': BOOK, 'value': compared.fates(BOOK, facts=KNOWN)[0], None: None, 'facts': KNOWN}),
    (compared.implied, {'one': BOOK, 'other': BOOK.without([1]), None: None, 'facts': KNOWN}),
    (compared.implied, {'one': BOOK.without([0]), 'other': BOOK, None: None, 'facts': KNOWN}),
    (compared.shows_implied, {'one': BOOK, 'other': BOOK.without([1]), None: None, 'facts': KNOWN,
                              'value': compared.implied(BOOK, BOOK.without([1]), facts=KNOWN)}),
    (least.least_drop, {'book': BOOK, None: None, 'facts': AGAINST}),
    (least.least_drop, {'book': SHUT, None: None, 'facts': KNOWN}),
    (least.turns, {'book': BOOK, None: None, 'facts': AGAINST}),
    (least.turns, {'book': SHUT, None: None, 'facts': KNOWN}),
    (least.forcing, {'book': BOOK}),
    (least.forcing, {'book': SHUT}),
    (least.shows_drop, {'book': BOOK, 'value': least.least_drop(BOOK, facts=AGAINST), None: None, 'facts': AGAINST}),
    (least.shows_turns, {'book': SHUT, 'value': least.turns(SHUT, facts=KNOWN), None: None, 'facts': KNOWN}),
    (least.shows_forcing, {'book': BOOK, 'value': least.forcing(BOOK)[1:]}),
    (numbers.all_orders, {'book': BOOK, None: None, 'facts': KNOWN}),
    (numbers.how_many, {'book': BOOK, None: None, 'facts': KNOWN}),
    (numbers.at_number, {'book': BOOK, 'number': 1, None: None, 'facts': KNOWN}),
    (numbers.number_of, {'book': BOOK, 'order': ORDER, None: None, 'facts': KNOWN}),
    (falls.matched, {'left': FXY, 'term': ('f', A, GX), 'given': {'Z': A, 'X': A}}),
    (falls.next_steps, {'book': BOOK, 'term': ('f', ('g', A), 'Z')}),
    (falls.longest_fall, {'book': BOOK, 'term': ('f', ('g', A), 'Z'), None: None, 'most': 9}),
    (falls.shows_fall, {'book': BOOK, 'term': ('g', A), 'value': [((), 1, A)]}),
    (falls.shows_longest, {'book': BOOK, 'term': ('g', A), 'value': ([((), 1, A)], [(A, 0), (('g', A), 1)])}),
    (told.book_seen, {'signs': SIGNS, 'seen': [(FXY, GX, True), (GX, A, False)]}),
    (told.parting, {'book': BOOK, 'terms': ['X', A, GX], None: None, 'facts': AGAINST[:0]}),
    (leads.Lead, {'signs': SIGNS}),
    (texts.show_term, {'signs': SIGNS, 'term': FXY}),
    (texts.show_book, {'book': BOOK}),
    (texts.show_facts, {'signs': SIGNS, 'facts': KNOWN + AGAINST}),
    (texts.show_order, {'order': ORDER}),
    (texts.read_term, {'signs': SIGNS, 'text': 'f(X, g(a))'}),
    (texts.read_book, {'text': texts.show_book(BOOK)}),
    (texts.read_facts, {'signs': SIGNS, 'text': 'above f g\nleft f'}),
    (texts.read_order, {'signs': SIGNS, 'text': 'order f g a\nlots f'}),
]

# Deeds and questions of a lead: a name and its arguments, after the deeds of the ones before it.
DEEDS = [('put', {'rule': (FXY, GX)}), ('bar', {'pair': (GX, A)}), ('mark', {}), ('claim', {'fact': ('above', 'f', 'a')}), ('put', {'rule': (GX, FXY)}),
         ('shows_shut', {'value': ('rule', 0, [])}), ('verdict', {}), ('sure_now', {}), ('withdraw', {'number': 2}), ('verdict', {}),
         ('give_up', {'fact': ('above', 'f', 'a')}), ('sure_now', {}), ('back_to', {'number': 0}), ('copy', {})]


def frozen(value):
    """All that can be seen of a value, as one that nothing changes."""
    if inspect.isgenerator(value):
        return ('generator', *[frozen(x) for x in value])
    if isinstance(value, Signs):
        return ('signs', *[(f, value.arity(f)) for f in value.names])
    if isinstance(value, Order):
        return ('order', frozen(value.signs), *value.facts)
    if isinstance(value, Book):
        return ('book', frozen(value.signs), frozen(value.rules), frozen(value.barred))
    if isinstance(value, Lead):
        return ('lead', frozen(value.book), frozen(value.numbers), value.facts, frozen(value.changed))
    if isinstance(value, (tuple, list)):
        return (type(value).__name__, *[frozen(x) for x in value])
    return ('dict', *[(key, frozen(value[key])) for key in value]) if isinstance(value, dict) else (type(value).__name__, value)


def lists(value):
    """All lists and dicts in a value, each as often as it stands there."""
    if isinstance(value, dict):
        return [value] + [x for key in value for x in lists(value[key])]
    if isinstance(value, (tuple, list)):
        return ([value] if isinstance(value, list) else []) + [x for part in value for x in lists(part)]
    return []


def spoil(value):
    for row in lists(value):
        row.clear()


def called(call, given, turned):
    """What a call tells with its arguments by position as far as may be, or all by name and in the other order."""
    if turned:
        return call(**{name: given[name] for name in list(given)[::-1] if name is not None})
    names = list(given)
    cut = names.index(None) if None in names else len(names)
    return call(*[given[name] for name in names[:cut]], **{name: given[name] for name in names[cut + 1:]})


class Arguments(unittest.TestCase):
    def test_by_name_and_in_another_order(self):
        for call, given in CALLS:
            self.assertEqual(frozen(called(call, given, False)), frozen(called(call, given, True)), call)

    def test_those_behind_the_star_by_name_alone(self):
        for call, given in CALLS:
            if None in given:
                with self.assertRaises(TypeError):
                    call(*[given[name] for name in given if name is not None])

    def test_all_that_the_interface_lists(self):
        for module in (terms, orders, facts, books, compared, least, numbers, falls, told, leads, texts):
            listed = [value for name, value in vars(module).items() if not name.startswith('_') and callable(value)
                      and value.__module__ == module.__name__]
            known = [call for call, _ in CALLS]
            helpers = {'look_at_terms', 'look_at_facts', 'spelled', 'serves', 'steps_of', 'is_pair', 'shows_trees'}
            self.assertEqual([value.__name__ for value in listed if value not in known and value.__name__ not in helpers], [])

    def test_deeds_of_a_lead(self):
        one, other = Lead(SIGNS), Lead(SIGNS)
        for name, given in DEEDS:
            self.assertEqual(frozen(called(getattr(one, name), given, False)), frozen(called(getattr(other, name), given, True)), name)
            self.assertEqual(frozen(one), frozen(other))

    def test_values_that_were_given_defaults(self):
        for call, given in CALLS:
            if None in given and 'facts' in given:
                bare = {name: given[name] for name in given if name not in (None, 'facts')}
                if call not in (numbers.number_of, numbers.at_number):
                    self.assertEqual(frozen(call(**bare)), frozen(call(**bare, facts=())), call)


class Copies(unittest.TestCase):
    def test_lists_that_are_told(self):
        for call, given in CALLS:
            first, again = called(call, given, False), called(call, given, False)
            if inspect.isgenerator(first):
                first, again = list(first), list(again)
            kept = frozen(first)
            self.assertEqual(frozen(again), kept, call)
            rows = [id(row) for row in lists(first) + lists(again) + lists(given)]
            self.assertEqual(len(rows), len(set(rows)), call)
            spoil(first)
            self.assertEqual(frozen(again), kept)
            third = called(call, given, True)
            self.assertEqual(frozen(third)[1:], kept[1:])

    def test_lists_that_are_handed_in(self):
        for call, given in CALLS:
            before = frozen(list(given.values()))
            answer = called(call, given, False)
            if inspect.isgenerator(answer):
                list(answer)
            self.assertEqual(frozen(list(given.values())), before, call)

    def test_lists_that_are_changed_later(self):
        for call, given in CALLS:
            handed = {name: copied(given[name]) for name in given}
            answer = called(call, handed, False)
            if inspect.isgenerator(answer):
                answer = list(answer)
            kept = frozen(answer)
            spoil(handed)
            self.assertEqual(frozen(answer), kept, call)

    def test_a_lead(self):
        lead = Lead(SIGNS)
        for name, given in DEEDS:
            handed = {key: copied(given[key]) for key in given}
            before, answer = frozen(handed), getattr(lead, name)(**handed)
            self.assertEqual(frozen(handed), before)
            kept, seen = frozen(lead), frozen(answer)
            spoil([row for row in handed.values() if isinstance(row, list)])
            rows = [lead.numbers, lead.changed[0], lead.changed[1], lead.sure_now(), lead.verdict(), lead.verdict(), answer]
            ids = [id(row) for row in lists(rows)]
            self.assertEqual(len(ids), len(set(ids)))
            for row in rows:
                spoil(row)
            self.assertEqual(frozen(lead), kept)
            if name in ('verdict', 'sure_now'):
                self.assertEqual(frozen(getattr(lead, name)()), seen)

    def test_same_answer_of_an_equal_state(self):
        rng = random.Random(111)
        for _ in range(25):
            book = papers.drawn_book(rng)
            known = papers.drawn_facts(rng, book.signs)
            calls = [lambda b: books.verdict(b, facts=known), lambda b: compared.fates(b, facts=known),
                     lambda b: least.least_drop(b, facts=known), lambda b: least.turns(b, facts=known), least.forcing,
                     lambda b: list(numbers.all_orders(b, facts=known)), lambda b: compared.implied(b, b, facts=known)]
            first = [frozen(call(book)) for call in calls]
            other = Book(book.signs, book.rules, book.barred)
            self.assertEqual([frozen(call(other)) for call in calls[::-1]][::-1], first)
            self.assertEqual([frozen(call(book)) for call in calls], first)
            rows = [id(row) for call in calls for row in lists(call(book))]
            for call in calls:
                answer = call(book)
                rows = [id(row) for row in lists(answer)]
                self.assertEqual(len(rows), len(set(rows)))


def copied(value):
    if isinstance(value, dict):
        return {key: copied(value[key]) for key in value}
    if isinstance(value, (tuple, list)):
        return type(value)(copied(x) for x in value)
    return value


class FactsEverywhere(unittest.TestCase):
    def test_no_tuple_and_bad_facts(self):
        good = ('above', 'g', 'a')
        many = 0
        for call, given in CALLS:
            if 'facts' not in given or call == facts.follows:
                continue
            many += 1
            for value in ODD:
                if not isinstance(value, tuple):
                    with self.assertRaises(errors.NoTuple):
                        answer = call(**{name: given[name] for name in given if name is not None} | {'facts': value})
                        list(answer)
                if value not in (('left', 'f'), ('above', 'f', 'a')):
                    with self.assertRaises(errors.BadFact) as caught:
                        answer = call(**{name: given[name] for name in given if name is not None} | {'facts': (good, good, value, 0)})
                        list(answer)
                    self.assertEqual(caught.exception.number, 2)
        self.assertEqual(len({call for call, given in CALLS if 'facts' in given}), 25)
        self.assertGreater(many, 24)

    def test_doubles_and_any_order(self):
        rng = random.Random(112)
        for _ in range(40):
            book = papers.drawn_book(rng)
            known = papers.drawn_facts(rng, book.signs)
            again = tuple(rng.sample(known, len(known))) + known
            for call in (compared.sure, numbers.how_many):
                self.assertEqual(call(book, facts=known), call(book, facts=again))
            self.assertEqual(list(numbers.all_orders(book, facts=known)), list(numbers.all_orders(book, facts=again)))
            answer = books.verdict(book, facts=known)
            shows = books.shows_served if answer[0] == 'yes' else books.shows_shut
            self.assertTrue(shows(book, answer[1] if answer[0] == 'no' else answer[1:], facts=again))


class OneBook(unittest.TestCase):
    """What is told of one book in several ways is the same."""

    def test_the_main_fact(self):
        rng = random.Random(113)
        words = []
        for _ in range(150):
            book = papers.drawn_book(rng)
            known = papers.drawn_facts(rng, book.signs)
            word, *rest = books.verdict(book, facts=known)
            words.append(word)
            many = numbers.how_many(book, facts=known)
            self.assertEqual(word == 'yes', many > 0)
            self.assertEqual(many, len(papers.serving(book, known)))
            if word == 'yes':
                self.assertTrue(books.shows_served(book, tuple(rest), facts=known))
                self.assertEqual(numbers.number_of(book, rest[0], facts=known), list(numbers.all_orders(book, facts=known)).index(rest[0]))
            else:
                self.assertTrue(books.shows_shut(book, rest[0], facts=known))
            self.assertEqual(least.least_drop(book, facts=known)[:2] == ('yes', []), word == 'yes')
            self.assertEqual(least.turns(book, facts=known)[:2] == ('yes', []), word == 'yes')
            self.lead(book, known, word)
            self.fates(book, known, many)
            self.texts(book, known)
        self.assertTrue(30 < words.count('yes') < 120)

    def lead(self, book, known, word):
        lead = Lead(book.signs)
        for rule in book.rules:
            lead.put(rule)
        for pair in book.barred:
            lead.bar(pair)
        for fact in known:
            lead.claim(fact)
        self.assertEqual(lead.book, book)
        self.assertEqual(lead.facts, tuple(sorted(set(known))))
        self.assertEqual(lead.sure_now(), compared.sure(book, facts=known))
        self.assertEqual(lead.verdict()[0], word)
        if word == 'yes':
            self.assertTrue(books.shows_served(book, lead.verdict()[1:], facts=known))
        else:
            self.assertTrue(lead.shows_shut(lead.verdict()[1]))
        named = walks.PlainLead(book.signs)
        named.rows = {k: ('rule', rule) for k, rule in enumerate(book.rules)}
        named.rows.update({k + len(book): ('barred', pair) for k, pair in enumerate(book.barred)})
        named.facts = list(known)
        if word == 'no':
            self.assertTrue(named.shows_shut(lead.verdict()[1]))

    def fates(self, book, known, many):
        for fact, word, _ in compared.fates(book, facts=known):
            self.assertEqual(word == 'sure', numbers.how_many(book, facts=known + (facts.opposite(fact),)) == 0)
            self.assertEqual(word == 'sure', numbers.how_many(book, facts=known + (fact,)) == many)

    def texts(self, book, known):
        self.assertEqual(texts.read_book(texts.show_book(book)), book)
        self.assertEqual(texts.read_facts(book.signs, texts.show_facts(book.signs, known)), known)
        for order in papers.serving(book, known)[:2]:
            self.assertEqual(texts.read_order(book.signs, texts.show_order(order)), order)
        for pair in book.rules + book.barred:
            for term in pair:
                self.assertEqual(texts.read_term(book.signs, texts.show_term(book.signs, term)), term)

    def test_comparisons(self):
        rng = random.Random(114)
        for _ in range(150):
            signs = Signs(rng.choice(papers.KINDS))
            s, t = papers.drawn_pair(rng, signs)
            known = papers.drawn_facts(rng, signs)
            word = compared.compared(signs, s, t, facts=known)[0]
            over, under = told.book_seen(signs, [(s, t, True)]), told.book_seen(signs, [(s, t, False)])
            many = numbers.how_many(over, facts=known), numbers.how_many(under, facts=known)
            self.assertEqual(word, {(False, False): 'none', (True, False): 'always', (False, True): 'never', (True, True): 'open'}[
                many[0] > 0, many[1] > 0])
            self.assertEqual(sum(many), numbers.how_many(Book(signs, [], []), facts=known))
            self.assertEqual(compared.implied(Book(signs, [], []), over, facts=known)[0], 'yes' if many[1] == 0 else 'no')

    def test_what_forces(self):
        rng = random.Random(115)
        for _ in range(80):
            book = papers.drawn_book(rng)
            answer = least.forcing(book)
            self.assertEqual(answer[0], books.verdict(book)[0])
            if answer[0] == 'yes':
                empty = Book(book.signs, [], [])
                self.assertEqual(numbers.how_many(empty, facts=answer[1]), numbers.how_many(book, facts=answer[1]))
                self.assertIsNone(facts.clash(book.signs, answer[1]))
                for k in range(len(answer[1])):
                    rest = answer[1][:k] + answer[1][k + 1:]
                    self.assertGreater(numbers.how_many(empty, facts=rest), numbers.how_many(book, facts=rest))

    def test_falls(self):
        rng = random.Random(116)
        for _ in range(80):
            book = papers.drawn_book(rng)
            term = plain.drawn(rng, book.signs, ['X'], 3)
            try:
                fall, heights = falls.longest_fall(book, term)
            except errors.NotServed as error:
                self.assertTrue(books.shows_shut(book, error.tree))
                self.assertEqual(numbers.how_many(book), 0)
                continue
            self.assertGreater(numbers.how_many(book), 0)
            self.assertTrue(falls.shows_longest(book, term, (fall, heights)))
            order = numbers.at_number(book, 0)
            for step in fall:
                self.assertTrue(order(term, step[2]))
                term = step[2]

    def test_refused_calls_change_nothing(self):
        kept = frozen(BOOK), frozen(ORDER), frozen(SIGNS), frozen(books.verdict(BOOK))
        calls = [lambda: BOOK[2], lambda: BOOK + 1, lambda: BOOK.without(None), lambda: BOOK.turned([2]), lambda: books.verdict(BOOK, facts=1),
                 lambda: falls.next_steps(BOOK, 1), lambda: falls.longest_fall(BOOK, ('g', ('g', A)), most=1), lambda: falls.longest_fall(SHUT, A),
                 lambda: numbers.at_number(BOOK, 10 ** 9), lambda: texts.show_term(SIGNS, ()), lambda: texts.read_order(SIGNS, 'order'),
                 lambda: told.parting(BOOK, [A, 1]), lambda: compared.implied(BOOK, Book(Signs([('a', 0)]), [], []))]
        for call in calls:
            with self.assertRaises(errors.RingError):
                call()
        self.assertEqual((frozen(BOOK), frozen(ORDER), frozen(SIGNS), frozen(books.verdict(BOOK))), kept)


if __name__ == '__main__':
    unittest.main()
