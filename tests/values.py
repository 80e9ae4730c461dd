"""Values of all kinds of point 3, and such that are made from others by small changes."""

from shutbyrings.books import Book
from shutbyrings.leads import Lead
from shutbyrings.orders import Order
from shutbyrings.terms import Signs


def raised(self, kind, call, *given, **named):
    """The error that a call raises, which is of a kind."""
    with self.assertRaises(kind) as caught:
        call(*given, **named)
    return caught.exception


def nested(levels, make):
    told = make('X')
    for _ in range(levels - 1):
        told = make(told)
    return told


SIGNS = Signs([('f', 2), ('a', 0)])

ODD = [
    None, True, False, 0, 1, 2, -1, 10 ** 39, -10 ** 39, '', 'X', 'a', 'f', 'left', 'above', 'A' * 9, 'x y', 'a\n',
    (), [], ('a',), ['a'], ('f',), ('f', 'X'), ('f', 'X', 'Y'), ['f', 'X', 'Y'], ('f', ['a'], 'X'), ((), ()), [[]],
    ('a', 0), ('a', True), (('a',),), ('part', 0, None), ('ring', []), ('ways', 'f'), ('left', 'f'), ('left', ['f']),
    ('above', 'f', 'a'), ('above', 'f'), {}, {'X': 'Y'}, SIGNS, Order(SIGNS, ['f', 'a'], []),
    nested(30, lambda x: (x,)), nested(30, lambda x: [x]), nested(30, lambda x: ('f', x, [x])[:2]),
    Book(SIGNS, [], []), Lead(SIGNS), {'X': ('f', 'X', 'Y'), 'Y': []}, Book(SIGNS, [(('a',), 'X')], [(('f', 'X', 'Y'), 'X')]),
    ('rule', 0, []), ('held', 0, 0), ('ways', ['f']), ('ring', ['f', 'a', 'f']), ('way', 'f', ('ways', 'f'), None),
    ('above', 'f', 'a', ('ring', ['f', 'a']), ('ring', ['a', 'f'])), ('yes', []), ('no', ('ring', [])), ('yes',),
    ('yes', [], Order(SIGNS, ['f', 'a'], []), [], []), (Order(SIGNS, ['f', 'a'], []), []), ((), SIGNS, [], []),
    nested(5000, lambda x: ('rule', 0, [((), x)])), nested(5000, lambda x: ('way', 'f', x, x[:0])),
    nested(5000, lambda x: ('f', x)), nested(5000, lambda x: ('part', 0, x)), [0] * 10000, ('f',) * 10000,
]


def changed(value):
    """Values made from a value by one change somewhere in it."""
    yield from (None, True, False, 0, 1, -1, 'X', 'part', (), [], (value,), [value])
    if isinstance(value, bool) or value is None:
        return
    if isinstance(value, int):
        yield from (value + 1, value - 1, bool(value), str(value))
    elif isinstance(value, Order):
        yield from other_orders(value)
    elif isinstance(value, str):
        yield from (value + 'x', value[:-1], [value], 'sign', 'left', 'lots')
    elif isinstance(value, (tuple, list)):
        yield from changed_row(value)


def other_orders(order):
    """Orders of the same signs, and such of other signs."""
    names, lots, ways = order.names, order.lots, order.signs.ways
    yield Order(order.signs, names[::-1], lots)
    yield Order(order.signs, names[1:] + names[:1], lots)
    for f in ways:
        yield Order(order.signs, names, [g for g in ways if (g in lots) != (g == f)])
    more = Signs([(f, order.signs.arity(f)) for f in order.signs.names] + [('more', 0)])
    yield Order(more, names + ['more'], lots)
    yield Order(SIGNS, ['f', 'a'], [])


def changed_row(row):
    kind = type(row)
    other = list if kind is tuple else tuple
    items = list(row)
    yield other(items)
    yield kind(items[::-1])
    yield kind(items + items[-1:])
    yield kind(items + [None])
    for k, item in enumerate(items):
        yield kind(items[:k] + items[k + 1:])
        yield kind(items[:k] + [item] + items[k:])
        for told in changed(item):
            yield kind(items[:k] + [told] + items[k + 1:])
    for k in range(len(items) - 1):
        yield kind(items[:k] + [items[k + 1], items[k]] + items[k + 2:])
