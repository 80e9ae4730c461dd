"""Comparisons under all orders, facts that are sure, and books that follow from others."""

from shutbyrings.asked import asked_of
from shutbyrings.books import Book, serves, unserved
from shutbyrings.cases import shows_tree
from shutbyrings.errors import Unlike
from shutbyrings.every import Every
from shutbyrings.facts import clash, is_fact, look_at_facts, opposite, shows_clash
from shutbyrings.kinds import is_list_of, is_tuple_of
from shutbyrings.needed import FactSets, all_facts
from shutbyrings.search import Search
from shutbyrings.terms import look_at_terms


def compared(signs, s, t, *, facts=()):
    """Whether all, no or some orders that fit facts have s above t, with the papers."""
    look_at_terms(signs, s, t)
    look_at_facts(signs, facts)
    asked = asked_of(FactSets(signs), [(s, t)], [])
    every = Every(asked.sets)
    rule, barred = Search(asked, every), Search(asked.opposed(), every)
    known = asked.sets.of(facts)
    over, under = rule.serving(known), barred.serving(known)
    if over == 0 and under == 0:
        return "none", clash(signs, facts)
    if under == 0:
        return "always", barred.cases(known)
    if over == 0:
        return "never", rule.cases(known)
    return "open", every.first(over), every.first(under)


def shows_compared(signs, s, t, value, *, facts=()):
    """Whether a value is such a tuple as compared tells."""
    look_at_terms(signs, s, t)
    look_at_facts(signs, facts)
    if clash(signs, facts) is not None:
        return is_tuple_of(value, 2) and value[0] == "none" and shows_clash(signs, facts, value[1])
    if is_tuple_of(value, 3) and value[0] == "open":
        _, one, other = value
        return serves(Book(signs, [(s, t)], []), facts, one) and serves(Book(signs, [], [(s, t)]), facts, other)
    if not is_tuple_of(value, 2) or value[0] not in ("always", "never"):
        return False
    asked = asked_of(FactSets(signs), [(s, t)], [])
    return shows_tree(asked if value[0] == "never" else asked.opposed(), facts, value[1])


def fates(book, *, facts=()):
    """Of all facts in ascending order, whether they are sure or free, with the papers."""
    look_at_facts(book.signs, facts)
    return [_fate(book, facts, fact) for fact in all_facts(book.signs)]


def _fate(book, facts, fact):
    search = book.search()
    known = _against(book, facts, fact)
    orders = search.serving(known)
    if orders == 0:
        return fact, "sure", search.cases(known)
    return fact, "free", search.every.first(orders)


def _against(book, facts, fact):
    """The facts with the opposite of one behind them, as a set."""
    return book.asked().sets.of((*facts, opposite(fact)))


def sure(book, *, facts=()):
    """The ascending list of the facts that are sure."""
    look_at_facts(book.signs, facts)
    search = book.search()
    return [fact for fact in all_facts(book.signs) if search.serving(_against(book, facts, fact)) == 0]


def shows_fate(book, value, *, facts=()):
    """Whether a value is a fact with its fate and the paper of that."""
    look_at_facts(book.signs, facts)
    if not is_tuple_of(value, 3) or not is_fact(book.signs, value[0]):
        return False
    fact, word, paper = value
    known = (*facts, opposite(fact))
    if word == "sure":
        return shows_tree(book.asked(), known, paper)
    return word == "free" and serves(book, known, paper)


def implied(one, other, *, facts=()):
    """Whether the other book follows from the one, with the trees, or an order that tells them apart."""
    if one.signs != other.signs:
        raise Unlike()
    look_at_facts(one.signs, facts)
    search = one.search()
    known = one.asked().sets.of(facts)
    apart = search.serving(known) & ~other.search().serving(0)
    if apart:
        return "no", search.every.first(apart)
    return "yes", [Search(asked, search.every).cases(known) for asked in _questions(one, other)]


def _questions(one, other):
    """What is asked where the one book is served and the other one is not, by one of its pairs."""
    asked, against = one.asked(), other.asked()
    barred = [asked.with_barred(against.wanted[k]) for k in against.wanted]
    return barred + [asked.with_rule(against.banned[j]) for j in against.banned]


def shows_implied(one, other, value, *, facts=()):
    """Whether a value is such a tuple as implied tells."""
    if one.signs != other.signs:
        raise Unlike()
    look_at_facts(one.signs, facts)
    if not is_tuple_of(value, 2):
        return False
    word, paper = value
    if word == "no":
        return serves(one, facts, paper) and unserved(paper, other) is not None
    return word == "yes" and shows_trees(_questions(one, other), facts, paper)


def shows_trees(questions, facts, value):
    """Whether a value is a list of trees of cases, one for each question."""
    if not is_list_of(value, len(questions)):
        return False
    return all([shows_tree(asked, facts, tree) for asked, tree in zip(questions, value)])
