"""Fewest rules to drop or to turn about, and facts that force a book."""

from shutbyrings.asked import Asked
from shutbyrings.books import Book, serves, shows_served, steps_of, unserved
from shutbyrings.cases import rules_named, shows_tree
from shutbyrings.compared import implied, shows_implied
from shutbyrings.facts import is_fact, look_at_facts
from shutbyrings.kinds import is_ascending, is_list_of, is_tuple_of
from shutbyrings.search import Search


def least_drop(book, *, facts=()):
    """As few rules as can be without which an order serves a book, with the papers."""
    look_at_facts(book.signs, facts)
    search = book.search()
    known = book.asked().sets.of(facts)
    for numbers in _lists(len(book)):
        orders = search.serving(known, numbers)
        if orders:
            order = search.every.first(orders)
            return "yes", numbers, order, steps_of(order, book.without(numbers)), _trees_against(book, facts, numbers)
    return "no", _search_without(book, list(range(len(book)))).cases(known)


def _search_without(book, numbers):
    return Search(book.asked().without(numbers), book.search().every)


def _trees_against(book, facts, numbers):
    """Trees such that no fewer numbers have, for each tree, one of the rules that it names."""
    trees = []
    named = []
    for fewer in _lists_just_below(book, numbers):
        if _hits_all(fewer, named):
            tree = _search_without(book, fewer).cases(book.asked().sets.of(facts))
            trees.append(tree)
            named.append(rules_named(book.asked(), facts, tree))
    return trees


def _lists_just_below(book, numbers):
    """The lists with one number less: if none of them hits all trees, no shorter one does."""
    return [fewer for fewer in _lists(len(book)) if len(fewer) == len(numbers) - 1]


def _hits_all(numbers, named):
    return all([len([k for k in rules if k in numbers]) > 0 for rules in named])


def shows_drop(book, value, *, facts=()):
    """Whether a value is such a tuple as least_drop tells."""
    look_at_facts(book.signs, facts)
    if is_tuple_of(value, 2) and value[0] == "no":
        return shows_tree(book.asked().without(list(range(len(book)))), facts, value[1])
    if not is_tuple_of(value, 5) or value[0] != "yes" or not is_ascending(value[1], len(book)):
        return False
    _, numbers, order, told, trees = value
    if not shows_served(book.without(numbers), (order, told), facts=facts) or not isinstance(trees, list):
        return False
    named = [rules_named(book.asked(), facts, tree) for tree in trees]
    if None in named:
        return False
    return not [fewer for fewer in _lists_just_below(book, numbers) if _hits_all(fewer, named)]


def turns(book, *, facts=()):
    """As few rules as can be with which turned about an order serves a book, with the papers."""
    look_at_facts(book.signs, facts)
    known = book.asked().sets.of(facts)
    every = book.search().every
    papers = []
    for numbers, asked in _turned_questions(book):
        search = Search(asked, every)
        orders = search.serving(known)
        if orders:
            order = every.first(orders)
            fewer = [paper for paper in papers if len(paper[0]) < len(numbers)]
            return "yes", numbers, order, steps_of(order, book.turned(numbers)), fewer
        papers.append((list(numbers), search.cases(known)))
    return "no", papers


def _turned_questions(book):
    """For each list of numbers what is asked with these rules turned about."""
    asked, about = book.asked(), book.turned(list(range(len(book)))).asked()
    return [(numbers, _mixed(asked, about, numbers)) for numbers in _lists(len(book))]


def _mixed(asked, about, numbers):
    wanted = {k: about.wanted[k] if k in numbers else asked.wanted[k] for k in asked.wanted}
    return Asked(asked.sets, wanted, asked.banned)


def shows_turns(book, value, *, facts=()):
    """Whether a value is such a tuple as turns tells, with any list of fewest turns."""
    look_at_facts(book.signs, facts)
    if is_tuple_of(value, 2) and value[0] == "no":
        return _shows_papers(_turned_questions(book), facts, value[1])
    if not is_tuple_of(value, 5) or value[0] != "yes" or not is_ascending(value[1], len(book)):
        return False
    _, numbers, order, told, papers = value
    if not shows_served(book.turned(numbers), (order, told), facts=facts):
        return False
    return _shows_papers([row for row in _turned_questions(book) if len(row[0]) < len(numbers)], facts, papers)


def _shows_papers(questions, facts, value):
    if not is_list_of(value, len(questions)):
        return False
    return all([_shows_paper(asked, numbers, facts, paper) for (numbers, asked), paper in zip(questions, value)])


def _shows_paper(asked, numbers, facts, value):
    # Numbers that are less than many as a list of integers only: True is no number.
    if not is_tuple_of(value, 2) or not is_ascending(value[0], len(asked.wanted)) or value[0] != numbers:
        return False
    return shows_tree(asked, facts, value[1])


def forcing(book):
    """Facts that force a book, none of which can be spared, with the papers."""
    search = book.search()
    sets = book.asked().sets
    orders = search.serving(0)
    if orders == 0:
        return "no", search.cases(0)
    order = search.every.first(orders)
    facts = _unspared(book, order.facts)
    trees = implied(_empty(book), book, facts=facts)[1]
    apart = [search.every.fitting(sets.of(_others(facts, fact))) & ~orders for fact in facts]
    return "yes", facts, order, trees, [search.every.first(many) for many in apart]


def _unspared(book, facts):
    """Some of the facts that force a book, which they all do, without those that can be spared."""
    search = book.search()
    sets = book.asked().sets
    against = search.every.whole & ~search.serving(0)
    kept = facts
    for fact in facts:
        if search.every.fitting(sets.of(_others(kept, fact))) & against == 0:
            kept = _others(kept, fact)
    return kept


def _others(facts, fact):
    return tuple([other for other in facts if other != fact])


def _empty(book):
    return Book(book.signs, [], [])


def shows_forcing(book, value):
    """Whether a value is (facts, order, trees, orders) as forcing tells them, with facts in any order."""
    if not is_tuple_of(value, 4) or not _are_unlike_facts(book.signs, value[0]):
        return False
    facts, order, trees, orders = value
    if not serves(_empty(book), facts, order) or not shows_implied(_empty(book), book, ("yes", trees), facts=facts):
        return False
    if not is_list_of(orders, len(facts)):
        return False
    return all([_tells_apart(book, _others(facts, fact), told) for fact, told in zip(facts, orders)])


def _are_unlike_facts(signs, value):
    if not isinstance(value, tuple) or not all([is_fact(signs, fact) for fact in value]):
        return False
    return len({fact: True for fact in value}) == len(value)


def _tells_apart(book, facts, value):
    """Whether a value is an order that fits facts and does not serve a book."""
    return serves(_empty(book), facts, value) and unserved(value, book) is not None


def _lists(many):
    """All ascending lists of numbers less than many, the shorter ones first, then in ascending order."""
    told = []
    level = [[]]
    while level:
        told.extend(level)
        level = [row + [n] for row in level for n in range(row[-1] + 1 if row else 0, many)]
    return told
