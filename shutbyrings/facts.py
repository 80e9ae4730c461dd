"""Facts of signs: what fits them, what clashes among them, and what a comparison needs of them."""

from shutbyrings.errors import BadFact, NotPossible, NoTuple
from shutbyrings.kinds import is_tuple_of
from shutbyrings.needed import FactSets, Needed
from shutbyrings.orders import Order
from shutbyrings.terms import look_at_terms

OTHER_WAY = {"left": "lots", "lots": "left"}


def is_fact(signs, value):
    """Whether a value is a fact of the signs."""
    if is_tuple_of(value, 3):
        word, f, g = value
        return word == "above" and f in signs and g in signs and f != g
    if is_tuple_of(value, 2):
        word, f = value
        return word in ("left", "lots") and f in signs and signs.arity(f) > 1
    return False


def look_at_facts(signs, facts):
    """Raise NoTuple, or BadFact with the number of the first item that is no fact of the signs."""
    if not isinstance(facts, tuple):
        raise NoTuple()
    for number, fact in enumerate(facts):
        if not is_fact(signs, fact):
            raise BadFact(number)


def opposite(fact):
    """The fact that holds in an order exactly if this one does not."""
    if fact[0] == "above":
        return ("above", fact[2], fact[1])
    return (OTHER_WAY[fact[0]], fact[1])


def follows(facts, fact):
    """Whether a fact is one of the facts or closes a chain of them."""
    return fact in facts or (fact[0] == "above" and fact[2] in _reached(facts, fact[1]))


def _reached(facts, f):
    """The signs below a sign by chains of facts."""
    found = {}
    todo = [f]
    while todo:
        for g in _under(facts, todo.pop()):
            if g not in found:
                found[g] = True
                todo.append(g)
    return found


def _under(facts, f):
    return [fact[2] for fact in facts if fact[0] == "above" and fact[1] == f]


def _over(facts, g):
    return [fact[1] for fact in facts if fact[0] == "above" and fact[2] == g]


def clash(signs, facts):
    """A clash among facts, or None if they are possible."""
    look_at_facts(signs, facts)
    for f in signs.ways:
        if ("left", f) in facts and ("lots", f) in facts:
            return ("ways", f)
    rest = _sorted_out(signs, facts)[1]
    return ("ring", _ring(facts, rest)) if rest else None


def _sorted_out(signs, facts):
    """A row of signs that fits as far as it goes, and the rest, in which each has another one above it."""
    row = []
    rest = signs.names
    while rest:
        free = [g for g in rest if not [f for f in _over(facts, g) if f in rest]]
        if not free:
            return row, rest
        row.append(free[0])
        rest.remove(free[0])
    return row, rest


def _ring(facts, rest):
    """A shortest ring among signs each of which has another one of them above it."""
    paths = [[f] for f in rest]
    while True:
        paths = [path + [g] for path in paths for g in rest if g not in path and ("above", path[-1], g) in facts]
        for path in paths:
            if ("above", path[-1], path[0]) in facts:
                return path


def shows_clash(signs, facts, value):
    """Whether a value is a clash among facts."""
    look_at_facts(signs, facts)
    if not is_tuple_of(value, 2):
        return False
    word, told = value
    if word == "ways":
        return ("left", told) in facts and ("lots", told) in facts
    return word == "ring" and isinstance(told, list) and _is_ring(facts, told)


def _is_ring(facts, told):
    if len(told) < 2:
        return False
    return all([("above", f, g) in facts for f, g in zip(told, told[1:] + told[:1])])


def order_of(signs, facts):
    """An order that fits facts; raises NotPossible if there is none."""
    if clash(signs, facts) is not None:
        raise NotPossible()
    row = _sorted_out(signs, facts)[0]
    return Order(signs, row, [f for f in signs.ways if ("lots", f) in facts])


def fits(order, facts):
    """Whether all facts hold in an order."""
    look_at_facts(order.signs, facts)
    return all([fact in order.facts for fact in facts])


def needs(signs, s, t):
    """The ascending list of the needs of s above t, each an ascending tuple of facts."""
    look_at_terms(signs, s, t)
    return Needed(FactSets(signs), s, t).listed()
