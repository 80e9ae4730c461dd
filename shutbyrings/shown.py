"""Looking over steps that are handed in, without any search.

A value is taken apart from above: each of its parts is a claim (value, u, v) to be
steps of u above v, which rests on further claims. None tells that a claim is wrong.
"""

from shutbyrings.kinds import is_list_of, is_tuple_of, is_whole


def shows_above(pair, value):
    """Whether a value is steps of s above t of a pair."""
    todo = [(value, pair.s, pair.t)]
    while todo:
        claim, u, v = todo.pop()
        more = _claims(pair, claim, u, v)
        if more is None:
            return False
        todo.extend(more)
    return True


def _claims(pair, value, u, v):
    if u == v or not isinstance(value, tuple) or len(value) == 0:
        return None
    if value[0] == "part":
        return _claims_of_part(pair, value, u, v)
    case = pair.case_of(u, v)
    if case == "none" or value[0] != case:
        return None
    if case == "left":
        return _claims_of_left(pair, value, u, v)
    if case == "lots":
        return _claims_of_lots(pair, value, u, v)
    return _with_list(pair, [], value[1], u, v) if len(value) == 2 else None


def _claims_of_part(pair, value, u, v):
    places = pair.store.places[u]
    if len(value) != 3 or not is_whole(value[1]) or not 0 <= value[1] < len(places):
        return None
    a = places[value[1]]
    if value[2] is None:
        return [] if a == v else None
    return [(value[2], a, v)]


def _claims_of_left(pair, value, u, v):
    i = pair.store.first_unlike(u, v)
    if len(value) != 4 or not is_whole(value[1]) or value[1] != i:
        return None
    a, b = pair.store.at(u, i, v, i)
    return _with_list(pair, [(value[2], a, b)], value[3], u, v)


def _claims_of_lots(pair, value, u, v):
    kept, over = pair.store.left_over(u, v)
    if len(value) != 3 or not over or not is_list_of(value[1], len(over)):
        return None
    found = []
    for j, row in zip(over, value[1]):
        if not is_tuple_of(row, 3) or not is_whole(row[0]) or not is_whole(row[1]):
            return None
        if row[0] != j or row[1] not in kept:
            return None
        a, b = pair.store.at(u, row[1], v, j)
        found.append((row[2], a, b))
    return _with_list(pair, found, value[2], u, v)


def _with_list(pair, found, value, u, v):
    """Claims that were found, and those of a list of steps of u above each argument of v."""
    needed = pair.with_arguments(u, v)
    if not is_list_of(value, len(needed)):
        return None
    return found + [(told, a, b) for told, (a, b) in zip(value, needed)]
