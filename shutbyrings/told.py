"""Comparisons that were seen, and terms that orders compare otherwise."""

from shutbyrings.books import Book
from shutbyrings.errors import BadSeen, BadTerm, NoList
from shutbyrings.facts import look_at_facts
from shutbyrings.kinds import is_tuple_of
from shutbyrings.overall import Overall
from shutbyrings.terms import is_term


def book_seen(signs, seen):
    """The book with what was seen as True as its rules, and what was seen as False barred."""
    if not isinstance(seen, list):
        raise NoList()
    for number, value in enumerate(seen):
        if not _is_seen(signs, value):
            raise BadSeen(number)
    rules = [(s, t) for s, t, above in seen if above]
    return Book(signs, rules, [(s, t) for s, t, above in seen if not above])


def _is_seen(signs, value):
    if not is_tuple_of(value, 3) or not isinstance(value[2], bool):
        return False
    return is_term(signs, value[0]) and is_term(signs, value[1])


def parting(book, terms, *, facts=()):
    """The first two terms that some orders compare otherwise than others, with two such orders, or None."""
    look_at_facts(book.signs, facts)
    _look_at_list(book.signs, terms)
    every = book.search().every
    orders = book.search().serving(book.asked().sets.of(facts))
    overall = Overall(every)
    for s in terms:
        for t in terms:
            over = orders & overall.orders(s, t)
            if over not in (0, orders):
                return s, t, every.first(over), every.first(orders & ~over)
    return None


def _look_at_list(signs, terms):
    if not isinstance(terms, list):
        raise NoList()
    for value in terms:
        if not is_term(signs, value):
            raise BadTerm(value)
