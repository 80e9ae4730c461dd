"""The orders that fit facts and serve a book, by numbers."""

from shutbyrings.errors import Misfit, NoOrder
from shutbyrings.books import serves
from shutbyrings.facts import look_at_facts
from shutbyrings.kinds import is_number


def all_orders(book, *, facts=()):
    """All orders that fit facts and serve a book, as numbered."""
    for place in _places(book, facts):
        yield book.search().every.order(place)


def _places(book, facts):
    """The ascending numbers, among all orders of the signs, of those that fit and serve."""
    look_at_facts(book.signs, facts)
    search = book.search()
    return search.every.listed(search.serving(book.asked().sets.of(facts)))


def how_many(book, *, facts=()):
    """How many orders fit facts and serve a book."""
    return len(_places(book, facts))


def at_number(book, number, *, facts=()):
    """The order with a number."""
    places = _places(book, facts)
    if not is_number(number, len(places)):
        raise NoOrder(number)
    return book.search().every.order(places[number])


def number_of(book, order, *, facts=()):
    """The number of an order."""
    places = _places(book, facts)
    if not serves(book, facts, order):
        raise Misfit()
    return places.index(book.search().every.place(order))
