"""Points 9 to 16 of the document written down once more, by plain trial of all orders, to compare with."""

from functools import lru_cache
from itertools import combinations

import plain
from shutbyrings.books import Book
from shutbyrings.orders import Order
from shutbyrings.terms import Signs

KINDS = [
    [('a', 0), ('b', 0)], [('a', 0), ('b', 0), ('c', 0)], [('f', 2), ('a', 0)], [('f', 2), ('g', 1), ('a', 0)],
    [('g', 2), ('f', 2)], [('f', 3), ('g', 1)], [('f', 1)], [('f', 2)], [('b', 0), ('f', 2), ('a', 0)], [('a', 0)],
]


def pairs_of(signs):
    return tuple((f, signs.arity(f)) for f in signs.names)


@lru_cache(maxsize=None)
def _needs(pairs, s, t):
    return plain.needs(Signs(list(pairs)), s, t)


def needs(signs, s, t):
    return _needs(pairs_of(signs), s, t)


@lru_cache(maxsize=None)
def _orders(pairs):
    return list(plain.all_orders(Signs(list(pairs))))


def orders_of(signs):
    """All orders as numbered: by rows in the order in which the signs were told, then by lists of lots."""
    def key(order):
        return [signs.names.index(f) for f in order.names], order.lots
    return sorted(_orders(pairs_of(signs)), key=key)


def serves(order, book):
    return (all(plain.above(order, s, t) for s, t in book.rules)
            and not any(plain.above(order, s, t) for s, t in book.barred))


def fits(order, facts):
    return all(fact in order.facts for fact in facts)


def serving(book, facts=()):
    return [order for order in orders_of(book.signs) if fits(order, facts) and serves(order, book)]


def fits_all(orders, fact):
    """Whether a fact holds in all of the orders."""
    return all(fact in order.facts for order in orders)


def opposite(fact):
    if fact[0] == 'above':
        return ('above', fact[2], fact[1])
    return ('lots' if fact[0] == 'left' else 'left', fact[1])


def drawn_pair(rng, signs, levels=3):
    s = plain.drawn(rng, signs, ['X', 'Y'], levels)
    t = plain.drawn(rng, signs, ['X', 'Y'], levels)
    return s, t


def drawn_book(rng, signs=None, most=3):
    """A small book; half of its pairs have needs, so that not all books are shut at once."""
    signs = signs or Signs(rng.choice(KINDS))
    rows = []
    for many in (rng.randrange(most + 1), rng.randrange(most)):
        row = [drawn_pair(rng, signs) for _ in range(many)]
        rows.append([pair if needs(signs, *pair) or rng.random() < 0.3 else drawn_pair(rng, signs) for pair in row])
    return Book(signs, *rows)


def drawn_facts(rng, signs):
    """Facts in any order, now and then with doubles or not possible."""
    found = plain.all_facts(signs)
    if not found:
        return ()
    told = rng.choices(found, k=rng.choice([0, 0, 1, 1, 2, 3]))
    return tuple(told)


def is_small(value):
    """Whether plain recursion can follow a value."""
    row, levels = [value], 0
    while row and levels < 100:
        row, levels = [part for told in row if isinstance(told, (tuple, list)) for part in told], levels + 1
    return not row


def is_int(value, many):
    return type(value) is int and 0 <= value < many


def is_list(value, many):
    return type(value) is list and len(value) == many


def is_row(value, many):
    return type(value) is tuple and len(value) == many


def is_fact(signs, value):
    if is_row(value, 3):
        word, f, g = value
        return word == 'above' and isinstance(f, str) and isinstance(g, str) and f in signs and g in signs and f != g
    return (is_row(value, 2) and isinstance(value[0], str) and value[0] in ('left', 'lots')
            and isinstance(value[1], str) and value[1] in signs.ways)


def shows_clash(signs, facts, value):
    if not is_row(value, 2) or not isinstance(value[0], str):
        return False
    if value[0] == 'ways':
        return isinstance(value[1], str) and ('left', value[1]) in facts and ('lots', value[1]) in facts
    if value[0] != 'ring' or type(value[1]) is not list or len(value[1]) < 2:
        return False
    ring = value[1]
    return all(isinstance(f, str) for f in ring) and all(
        ('above', ring[k - 1], ring[k]) in facts for k in range(len(ring)))


def shows_tree(book, facts, value):
    """Point 10, case by case."""
    signs = book.signs
    if type(value) is not tuple or not value or not isinstance(value[0], str):
        return False
    if value[0] in ('ring', 'ways'):
        return shows_clash(signs, facts, value)
    if value[0] == 'held' and len(value) == 3:
        if not is_int(value[1], len(book.barred)):
            return False
        told = needs(signs, *book.barred[value[1]])
        return is_int(value[2], len(told)) and all(fact in facts for fact in told[value[2]])
    if value[0] == 'rule' and len(value) == 3:
        return is_int(value[1], len(book)) and shows_cases(book, facts, needs(signs, *book.rules[value[1]]), value[2])
    if value[0] == 'above' and len(value) == 5 and is_fact(signs, value[:3]):
        one, other = value[:3], (value[0], value[2], value[1])
    elif value[0] == 'way' and len(value) == 4 and is_fact(signs, ('left', value[1])):
        one, other = ('left', value[1]), ('lots', value[1])
    else:
        return False
    return shows_tree(book, facts + (one,), value[-2]) and shows_tree(book, facts + (other,), value[-1])


def shows_cases(book, facts, told, cases):
    if type(cases) is not list:
        return False
    for case in cases:
        if not is_row(case, 2) or type(case[0]) is not tuple or not all(is_fact(book.signs, fact) for fact in case[0]):
            return False
        if not shows_tree(book, facts + case[0], case[1]):
            return False
    return all(any(set(more) <= set(need) for more, _ in cases) for need in told)


def rules_named(tree):
    if tree[0] == 'rule':
        return {tree[1]}.union(*[rules_named(case[1]) for case in tree[2]])
    if tree[0] == 'above' or tree[0] == 'way':
        return rules_named(tree[-2]) | rules_named(tree[-1])
    return set()


def full_tree(book, facts):
    """A tree of cases that asks for every fact, in the order of the facts: right, but far larger than needed."""
    for j, pair in enumerate(book.barred):
        for i, need in enumerate(needs(book.signs, *pair)):
            if all(fact in facts for fact in need):
                return ('held', j, i)
    for fact in plain.all_facts(book.signs):
        back = opposite(fact)
        if fact in facts and back in facts:
            return ('ways', fact[1]) if len(fact) == 2 else ('ring', [fact[1], fact[2]])
    for fact in plain.all_facts(book.signs):
        if fact not in facts and opposite(fact) not in facts and fact[0] != 'lots':
            trees = full_tree(book, facts + (fact,)), full_tree(book, facts + (opposite(fact),))
            return (*fact, *trees) if len(fact) == 3 else ('way', fact[1], *trees)
    return closed(book, facts)


def closed(book, facts):
    """The end of such a tree, where all is told."""
    for f in book.signs.names:
        for g in book.signs.names:
            for h in book.signs.names:
                if all(fact in facts for fact in (('above', f, g), ('above', g, h), ('above', h, f))):
                    return ('ring', [f, g, h])
    order = [order for order in orders_of(book.signs) if fits(order, facts)][0]
    for k, rule in enumerate(book.rules):
        if not plain.above(order, *rule):
            return ('rule', k, [(need, full_tree(book, facts + need)) for need in needs(book.signs, *rule)])
    raise AssertionError('the order serves the book')


def is_order(book, facts, value):
    return isinstance(value, Order) and value.signs == book.signs and fits(value, facts) and serves(value, book)


def shows_served(book, facts, value):
    return (is_row(value, 2) and is_order(book, facts, value[0]) and is_list(value[1], len(book))
            and all(plain.shows(value[0], s, t, told) for (s, t), told in zip(book.rules, value[1])))


def fate_shown(book, facts, value):
    if not is_row(value, 3) or not is_fact(book.signs, value[0]) or not isinstance(value[1], str):
        return False
    known = facts + (opposite(value[0]),)
    if value[1] == 'sure':
        return shows_tree(book, known, value[2])
    return value[1] == 'free' and is_order(book, known, value[2])


def compared_shown(signs, s, t, facts, value):
    rule, barred = Book(signs, [(s, t)], []), Book(signs, [], [(s, t)])
    if type(value) is not tuple or not value or not isinstance(value[0], str):
        return False
    possible = any(fits(order, facts) for order in orders_of(signs))
    if value[0] == 'none' and len(value) == 2:
        return shows_clash(signs, facts, value[1])
    if value[0] == 'open' and len(value) == 3:
        return is_order(rule, facts, value[1]) and is_order(barred, facts, value[2])
    if value[0] in ('always', 'never') and len(value) == 2:
        return possible and shows_tree(rule if value[0] == 'never' else barred, facts, value[1])
    return False


def questions(one, other):
    return ([Book(one.signs, one.rules, one.barred + [rule]) for rule in other.rules]
            + [Book(one.signs, one.rules + [pair], one.barred) for pair in other.barred])


def trees_shown(books, facts, value):
    return is_list(value, len(books)) and all(shows_tree(book, facts, tree) for book, tree in zip(books, value))


def implied_shown(one, other, facts, value):
    if not is_row(value, 2) or not isinstance(value[0], str):
        return False
    if value[0] == 'no':
        return is_order(one, facts, value[1]) and not serves(value[1], other)
    return value[0] == 'yes' and trees_shown(questions(one, other), facts, value[1])


def lists_of(many):
    return [list(row) for size in range(many + 1) for row in combinations(range(many), size)]


def is_numbers(value, many):
    return type(value) is list and all(is_int(k, many) for k in value) and value == sorted(set(value))


def without(book, numbers):
    return Book(book.signs, [rule for k, rule in enumerate(book.rules) if k not in numbers], book.barred)


def turned(book, numbers):
    return Book(book.signs, [rule[::-1] if k in numbers else rule for k, rule in enumerate(book.rules)], book.barred)


def drop_shown(book, facts, value):
    if type(value) is not tuple or not value or not isinstance(value[0], str):
        return False
    if value[0] == 'no' and len(value) == 2:
        return shows_tree(without(book, range(len(book))), facts, value[1])
    if value[0] != 'yes' or len(value) != 5 or not is_numbers(value[1], len(book)) or type(value[4]) is not list:
        return False
    if not shows_served(without(book, value[1]), facts, value[2:4]):
        return False
    if not all(shows_tree(book, facts, tree) for tree in value[4]):
        return False
    named = [rules_named(tree) for tree in value[4]]
    fewer = [row for row in lists_of(len(book)) if len(row) < len(value[1])]
    return not any(all(set(row) & rules for rules in named) for row in fewer)


def turns_shown(book, facts, value):
    if type(value) is not tuple or not value or not isinstance(value[0], str):
        return False
    if value[0] == 'no' and len(value) == 2:
        fewer, papers = lists_of(len(book)), value[1]
    elif value[0] == 'yes' and len(value) == 5 and is_numbers(value[1], len(book)):
        if not shows_served(turned(book, value[1]), facts, value[2:4]):
            return False
        fewer, papers = [row for row in lists_of(len(book)) if len(row) < len(value[1])], value[4]
    else:
        return False
    return is_list(papers, len(fewer)) and all(
        is_row(paper, 2) and is_numbers(paper[0], len(book)) and paper[0] == row
        and shows_tree(turned(book, row), facts, paper[1]) for row, paper in zip(fewer, papers))


def forcing_shown(book, value):
    empty = Book(book.signs, [], [])
    if not is_row(value, 4) or type(value[0]) is not tuple or not all(is_fact(book.signs, fact) for fact in value[0]):
        return False
    facts, order, trees, orders = value
    if len(set(facts)) != len(facts) or not is_order(empty, facts, order) or not is_list(orders, len(facts)):
        return False
    if not trees_shown(questions(empty, book), facts, trees):
        return False
    return all(is_order(empty, facts[:k] + facts[k + 1:], told) and not serves(told, book)
               for k, told in enumerate(orders))
