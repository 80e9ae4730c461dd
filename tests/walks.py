"""Points 16 to 19 of the document written down once more, by plain recursion and plain trial, to compare with."""

import re

import papers
import plain
from shutbyrings.books import Book
from shutbyrings.orders import Order
from shutbyrings.terms import Signs


def variables(term):
    return {term} if isinstance(term, str) else set().union(*[variables(x) for x in term[1:]])


def put(term, given):
    return given.get(term, term) if isinstance(term, str) else (term[0], *[put(x, given) for x in term[1:]])


def levels(term):
    return 1 + max([levels(x) for x in term[1:]], default=0) if isinstance(term, tuple) else 1


def matched(left, term, given):
    if isinstance(left, str):
        return {**given, left: term} if given.get(left, term) == term else None
    if isinstance(term, str) or left[0] != term[0]:
        return None
    for x, y in zip(left[1:], term[1:]):
        given = matched(x, y, given)
        if given is None:
            return None
    return given


def is_used(rule):
    return not isinstance(rule[0], str) and variables(rule[1]) <= variables(rule[0])


def steps(book, term):
    """All steps of a term, ascending by path, then number."""
    found = []
    for k, (left, right) in enumerate(book.rules):
        given = matched(left, term, {}) if is_used((left, right)) else None
        if given is not None:
            found.append(((), k, put(right, given)))
    if isinstance(term, tuple):
        for i, x in enumerate(term[1:]):
            found += [((i,) + path, k, term[:i + 1] + (told,) + term[i + 2:]) for path, k, told in steps(book, x)]
    return sorted(found, key=lambda step: step[:2])


def reached(book, term, most):
    """The steps of all terms that falls reach, or None if there are more than most."""
    found, todo = {}, [term]
    while todo:
        x = todo.pop()
        if x not in found:
            found[x] = steps(book, x)
            todo += [step[2] for step in found[x]]
        if len(found) > most:
            return None
    return found


def height(found, term, known=None):
    known = {} if known is None else known
    if term not in known:
        known[term] = max([1 + height(found, step[2], known) for step in found[term]], default=0)
    return known[term]


def is_int(value):
    return type(value) is int


def fall_shown(book, term, value):
    """Point 17; an equal step of a plain list might hold True for 1, so kinds are looked at."""
    if type(value) is not list:
        return False
    for step in value:
        if not papers.is_row(step, 3) or type(step[0]) is not tuple or not all(is_int(i) for i in step[0]):
            return False
        if not is_int(step[1]) or step not in steps(book, term):
            return False
        term = step[2]
    return True


def is_term(signs, value):
    if isinstance(value, str):
        return re.fullmatch('[A-Z]{1,8}', value) is not None
    if type(value) is not tuple or not value or not isinstance(value[0], str) or value[0] not in signs:
        return False
    return len(value) == signs.arity(value[0]) + 1 and all(is_term(signs, x) for x in value[1:])


def is_small_term(signs, value):
    """Whether a value is a term, told for values that plain recursion can follow."""
    return papers.is_small(value) and is_term(signs, value)


def longest_shown(book, term, value):
    if not papers.is_row(value, 2) or not fall_shown(book, term, value[0]) or type(value[1]) is not list:
        return False
    for row in value[1]:
        if not papers.is_row(row, 2) or not is_term(book.signs, row[0]) or not is_int(row[1]) or row[1] < 0:
            return False
    heights = dict(value[1])
    if len(heights) != len(value[1]) or heights.get(term) != len(value[0]):
        return False
    return all(heights.get(told, heights[x]) < heights[x] for x in heights for _, _, told in steps(book, x))


def parting(book, terms, facts):
    """The places of the first two terms that orders compare otherwise, or None."""
    orders = papers.serving(book, facts)
    for i, s in enumerate(terms):
        for j, t in enumerate(terms):
            if len({plain.above(order, s, t) for order in orders}) == 2:
                return i, j
    return None


def term_text(term):
    if isinstance(term, str):
        return term
    return term[0] + ('(' + ', '.join(term_text(x) for x in term[1:]) + ')' if len(term) > 1 else '')


def book_text(book):
    rows = ['sign %s %d' % (name, book.signs.arity(name)) for name in book.signs.names]
    rows += ['rule %s -> %s' % (term_text(s), term_text(t)) for s, t in book.rules]
    return '\n'.join(rows + ['barred %s -> %s' % (term_text(s), term_text(t)) for s, t in book.barred])


def facts_text(facts):
    return '\n'.join(' '.join(fact) for fact in facts)


def order_text(order):
    return '\n'.join(['order ' + ' '.join(order.names)] + ['lots ' + name for name in order.lots])


def read_term(signs, text):
    """The term with a text, letter by letter, or None."""
    term, rest = _read(signs, text)
    return term if rest == '' else None


def _read(signs, text):
    word = re.match('[A-Z]{1,8}(?![A-Za-z])|[a-z]{1,8}(?![A-Za-z])', text)
    if word is None:
        return None, text
    name, rest = word.group(), text[word.end():]
    if name.isupper():
        return name, rest
    many = signs.arity(name) if name in signs else -1
    if many <= 0:
        return (None, text) if many < 0 else ((name,), rest)
    row = []
    for k in range(many):
        start = ', ' if k else '('
        if not rest.startswith(start):
            return None, text
        told, rest = _read(signs, rest[len(start):])
        if told is None:
            return None, text
        row.append(told)
    return ((name, *row), rest[1:]) if rest.startswith(')') else (None, text)


def _read_pair(signs, word, line):
    row = line.split(' ', 1)
    sides = row[1].split(' -> ') if len(row) == 2 and row[0] == word else []
    told = [read_term(signs, side) for side in sides]
    return tuple(told) if len(told) == 2 and None not in told else None


def read_book(text):
    """The book with a text, or the number of the first line that is wrong."""
    pairs, rules, barred = [], [], []
    for number, line in enumerate(text.split('\n'), start=1):
        row = re.fullmatch('sign ([a-z]{1,8}) ([0-3])', line)
        if row is not None:
            if rules or barred or len(pairs) == 5 or row.group(1) in dict(pairs):
                return number
            pairs.append((row.group(1), int(row.group(2))))
            continue
        if not pairs:
            return number
        signs = Signs(pairs)
        rule, pair = _read_pair(signs, 'rule', line), _read_pair(signs, 'barred', line)
        if rule is not None and not barred:
            rules.append(rule)
        elif pair is not None:
            barred.append(pair)
        else:
            return number
    return Book(Signs(pairs), rules, barred)


def read_facts(signs, text):
    told = []
    for number, line in enumerate(text.split('\n') if text else [], start=1):
        fact = tuple(line.split(' '))
        if not papers.is_fact(signs, fact):
            return number
        told.append(fact)
    return tuple(told)


def read_order(signs, text):
    lines = text.split('\n')
    if sorted(lines[0].split(' ')[1:]) != sorted(signs.names) or lines[0].split(' ')[0] != 'order':
        return 1
    lots = []
    for number, line in enumerate(lines[1:], start=2):
        row = line.split(' ')
        if len(row) != 2 or row[0] != 'lots' or row[1] not in signs.ways or row[1] <= max(lots, default=''):
            return number
        lots.append(row[1])
    return Order(signs, lines[0].split(' ')[1:], lots)


class PlainLead:
    """Point 18: what stands, by plain lists."""

    def __init__(self, signs):
        self.signs, self.rows, self.facts, self.given, self.marks = signs, {}, [], 0, []
        self.changed = ([], [])

    def book(self):
        return Book(self.signs, *[[pair for told, pair in self.rows.values() if told == word]
                                  for word in ('rule', 'barred')])

    def sure(self):
        orders = papers.serving(self.book(), tuple(self.facts))
        return [fact for fact in plain.all_facts(self.signs) if papers.fits_all(orders, fact)]

    def do(self, deed):
        before = self.sure()
        told = deed()
        after = self.sure()
        self.changed = ([fact for fact in after if fact not in before], [fact for fact in before if fact not in after])
        return told

    def take(self, word, pair):
        self.rows[self.given] = (word, pair)
        self.given += 1
        return self.given - 1

    def claim(self, fact):
        fresh = fact not in self.facts
        if fresh:
            self.facts.append(fact)
        return fresh

    def mark(self):
        self.marks.append((dict(self.rows), list(self.facts)))
        return len(self.marks) - 1

    def back_to(self, number):
        del self.marks[number + 1:]
        self.rows, self.facts = dict(self.marks[number][0]), list(self.marks[number][1])

    def copied(self):
        told = PlainLead(self.signs)
        told.rows, told.facts, told.given, told.changed = dict(self.rows), list(self.facts), self.given, self.changed
        told.marks = [(dict(rows), list(facts)) for rows, facts in self.marks]
        return told

    def shows_shut(self, value):
        """A tree with the lead's numbers is one with the numbers of the book, put in their place."""
        named = {word: [k for k, row in self.rows.items() if row[0] == word] for word in ('rule', 'barred')}
        return papers.shows_tree(self.book(), tuple(self.facts), _renumbered(value, named['rule'], named['barred']))


def _renumbered(value, rules, barred):
    if type(value) is not tuple or not value or not isinstance(value[0], str):
        return value
    if value[0] == 'held' and len(value) == 3:
        return ('held', _place(barred, value[1]), value[2])
    if value[0] == 'rule' and len(value) == 3:
        cases = value[2]
        if type(cases) is list:
            cases = [(case[0], _renumbered(case[1], rules, barred)) if papers.is_row(case, 2) else case for case in cases]
        return ('rule', _place(rules, value[1]), cases)
    return tuple(_renumbered(x, rules, barred) for x in value)


def _place(numbers, k):
    return numbers.index(k) if is_int(k) and k in numbers else None
