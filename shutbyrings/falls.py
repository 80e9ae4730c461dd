"""Steps of terms by the rules of a book, and longest rows of them."""

from shutbyrings.errors import BadTerm, NotServed, TooMany
from shutbyrings.kinds import is_tuple_of, is_whole
from shutbyrings.moves import Moves, matching
from shutbyrings.numbered import Numbered
from shutbyrings.terms import is_term


def matched(left, term, given):
    """A new dict, given made longer by the variables of left, by which left becomes term, or None."""
    store = Numbered()
    known = {name: store.take(given[name]) for name in given}
    found = matching(store, left, store.take(term), known)
    return None if found is None else {name: store.terms[found[name]] for name in found}


def next_steps(book, term):
    """The list of all steps of a term, ascending by path, then number."""
    moves, start = _begun(book, term)
    return [(path, k, moves.store.terms[other]) for path, k, other in moves.all_steps(start)]


def _begun(book, term):
    """The moves of a book and the number of a term; raise BadTerm."""
    if not is_term(book.signs, term):
        raise BadTerm(term)
    moves = Moves(book)
    return moves, moves.store.take(term)


def longest_fall(book, term, *, most=100):
    """A longest fall from a term, and heights that show it."""
    moves, start = _begun(book, term)
    search = book.search()
    if search.serving(0) == 0:
        raise NotServed(search.cases(0))
    below = _reached(moves, start, most)
    heights = _heights(below, start)
    fall = []
    number = start
    while heights[number] > 0:
        lower = [other for other in below[number] if heights[other] == heights[number] - 1][0]
        path, k = moves.way(number, lower)
        fall.append((path, k, moves.store.terms[lower]))
        number = lower
    return fall, [(moves.store.terms[number], heights[number]) for number in below]


def _reached(moves, start, most):
    """Of each term that falls reach, the terms that one step leads to; raise TooMany."""
    below = {start: []}
    todo = [start]
    while todo:
        number = todo.pop()
        found = moves.targets(number, most)
        if found is None:
            raise TooMany()
        below[number] = found
        for other in found:
            if other not in below:
                below[other] = []
                todo.append(other)
        if len(below) > most:
            raise TooMany()
    return below


def _heights(below, start):
    """Of each term the number of the steps of its longest falls, of which none comes back to its term."""
    heights = {}
    todo = [start]
    while todo:
        rest = [other for other in below[todo[-1]] if other not in heights]
        if rest:
            todo.extend(rest)
        else:
            number = todo.pop()
            heights[number] = max([heights[other] + 1 for other in below[number]], default=0)
    return heights


def shows_fall(book, term, value):
    """Whether a value is a fall from a term."""
    moves, start = _begun(book, term)
    return _is_fall(book.signs, moves, start, value)


def _is_fall(signs, moves, number, value):
    if not isinstance(value, list):
        return False
    for step in value:
        if not is_tuple_of(step, 3) or not is_term(signs, step[2]):
            return False
        number = moves.after(number, step[0], step[1])
        if number != moves.store.take(step[2]):
            return False
    return True


def shows_longest(book, term, value):
    """Whether a value is (fall, heights) that shows that the fall is a longest one from a term."""
    moves, start = _begun(book, term)
    if not is_tuple_of(value, 2) or not _is_fall(book.signs, moves, start, value[0]):
        return False
    heights = _heights_told(book.signs, moves.store, value[1])
    if heights is None or start not in heights or heights[start] != len(value[0]):
        return False
    return all([_leads_down(moves, heights, number) for number in heights])


def _heights_told(signs, store, value):
    """Numbers of unlike terms with the integers that a list of tuples gives them, or None."""
    if not isinstance(value, list):
        return None
    heights = {}
    for row in value:
        if not is_tuple_of(row, 2) or not is_term(signs, row[0]) or not is_whole(row[1]) or row[1] < 0:
            return None
        number = store.take(row[0])
        if number in heights:
            return None
        heights[number] = row[1]
    return heights


def _leads_down(moves, heights, number):
    """Whether each step of a term leads to a listed term with a smaller number."""
    found = moves.targets(number, len(heights))
    return found is not None and all([other in heights and heights[other] < heights[number] for other in found])
