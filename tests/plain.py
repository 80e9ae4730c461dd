"""Points 5 to 8 of the document written down once more, by plain recursion, to compare with."""

from itertools import combinations, permutations, product

from shutbyrings.orders import Order


def all_orders(signs):
    ways = signs.ways
    for names in permutations(signs.names):
        for many in range(len(ways) + 1):
            for lots in combinations(ways, many):
                yield Order(signs, list(names), list(lots))


def all_facts(signs):
    found = [('above', f, g) for f in signs.names for g in signs.names if f != g]
    found += [(way, f) for way in ('left', 'lots') for f in signs.ways]
    return sorted(found)


def terms_up_to(signs, variables, levels):
    """All terms with at most so many levels."""
    told = list(variables) + [(f,) for f in signs.names if signs.arity(f) == 0]
    for _ in range(levels - 1):
        made = [(f, *row) for f in signs.names if signs.arity(f)
                for row in product(told, repeat=signs.arity(f))]
        told = list(dict.fromkeys(told + made))
    return told


def drawn(rng, signs, variables, levels):
    """A term with at most so many levels, drawn by a generator of numbers with a seed."""
    low = list(variables) + [(f,) for f in signs.names if signs.arity(f) == 0]
    if levels == 1 or rng.random() < 0.2:
        return rng.choice(low)
    f = rng.choice(signs.names)
    return (f, *[drawn(rng, signs, variables, levels - 1) for _ in range(signs.arity(f))])


def part_of(term, other):
    return term == other or (isinstance(other, tuple) and any(part_of(term, x) for x in other[1:]))


def taken_away(s, t):
    """The places of s and of t that are left."""
    left_of_s, left_of_t = list(range(1, len(s))), []
    for j in range(1, len(t)):
        for i in left_of_s:
            if s[i] == t[j]:
                left_of_s.remove(i)
                break
        else:
            left_of_t.append(j)
    return [i - 1 for i in left_of_s], [j - 1 for j in left_of_t]


def unlike(s, t):
    return [i for i in range(len(s) - 1) if s[i + 1] != t[i + 1]][0]


def above(order, s, t):
    """Point 5, case by case."""
    if isinstance(s, str) or s == t:
        return False
    if any(x == t or above(order, x, t) for x in s[1:]):
        return True
    if isinstance(t, str) or not all(above(order, s, y) for y in t[1:]):
        return False
    if s[0] != t[0]:
        return order.names.index(s[0]) < order.names.index(t[0])
    if s[0] not in order.lots:
        i = unlike(s, t)
        return above(order, s[i + 1], t[i + 1])
    left_of_s, left_of_t = taken_away(s, t)
    return bool(left_of_s) and all(any(above(order, s[i + 1], t[j + 1]) for i in left_of_s) for j in left_of_t)


def is_list(value, many):
    return type(value) is list and len(value) == many


def shows(order, s, t, value):
    """Point 6, case by case."""
    if isinstance(s, str) or s == t or type(value) is not tuple or not value or type(value[0]) is not str:
        return False
    if value[0] == 'part':
        if len(value) != 3 or type(value[1]) is not int or not 0 <= value[1] < len(s) - 1:
            return False
        x = s[value[1] + 1]
        return x == t if value[2] is None else shows(order, x, t, value[2])
    if isinstance(t, str):
        return False

    def rest(told):
        return is_list(told, len(t) - 1) and all(shows(order, s, y, told[j]) for j, y in enumerate(t[1:]))

    if value[0] == 'sign':
        f, g = s[0], t[0]
        return (f != g and order.names.index(f) < order.names.index(g)
                and len(value) == 2 and rest(value[1]))
    if s[0] != t[0]:
        return False
    if value[0] == 'left':
        i = unlike(s, t)
        return (s[0] not in order.lots and len(value) == 4 and type(value[1]) is int and value[1] == i
                and shows(order, s[i + 1], t[i + 1], value[2]) and rest(value[3]))
    if value[0] != 'lots' or s[0] not in order.lots or len(value) != 3:
        return False
    left_of_s, left_of_t = taken_away(s, t)
    return (bool(left_of_s) and is_list(value[1], len(left_of_t)) and rest(value[2])
            and all(is_row(order, s, t, j, row, left_of_s) for j, row in zip(left_of_t, value[1])))


def is_row(order, s, t, j, row, left_of_s):
    if type(row) is not tuple or len(row) != 3 or type(row[0]) is not int or type(row[1]) is not int:
        return False
    return row[0] == j and row[1] in left_of_s and shows(order, s[row[1] + 1], t[j + 1], row[2])


def fits_some(signs, facts):
    return any(all(fact in order.facts for fact in facts) for order in all_orders(signs))


def joined(families):
    return {frozenset().union(*row) for row in product(*families)}


def sets(s, t):
    """Point 8, without leaving anything out."""
    if isinstance(s, str) or s == t:
        return set()
    if t in s[1:]:
        return {frozenset()}
    if isinstance(t, str):
        return {frozenset()} if part_of(t, s) else set()
    found = set().union(*[sets(x, t) for x in s[1:]])
    rest = [sets(s, y) for y in t[1:]]
    f, g = s[0], t[0]
    if f != g:
        return found | joined([{frozenset([('above', f, g)])}] + rest)
    i = unlike(s, t) + 1
    if len(s) == 2:
        return found | joined(rest + [sets(s[i], t[i])])
    found |= joined([{frozenset([('left', f)])}] + rest + [sets(s[i], t[i])])
    left_of_s, left_of_t = taken_away(s, t)
    if left_of_s:
        found |= joined([{frozenset([('lots', f)])}] + rest
                        + [set().union(*[sets(s[i + 1], t[j + 1]) for i in left_of_s]) for j in left_of_t])
    return found


def needs(signs, s, t):
    told = [one for one in sets(s, t) if fits_some(signs, one)]
    return sorted(tuple(sorted(one)) for one in told if not any(other < one for other in told))
