"""Looking over trees of cases that are handed in, without any search.

A value is taken apart from above: each of its parts is a claim (value, facts) to be a
tree of cases for a set of facts, which rests on further claims. None tells that a claim
is wrong.
"""

from shutbyrings.facts import is_fact, opposite, shows_clash
from shutbyrings.kinds import is_number, is_tuple_of, is_whole
from shutbyrings.needed import has_part


def shows_tree(asked, facts, value):
    """Whether a value is a tree of cases, for a tuple of facts."""
    return rules_named(asked, facts, value) is not None


def rules_named(asked, facts, value):
    """The ascending list of the numbers of rules that a tree of cases names, or None if it is none."""
    named = {}
    todo = [(value, asked.sets.of(facts))]
    while todo:
        claim, known = todo.pop()
        more = _claims(asked, claim, known)
        if more is None:
            return None
        if claim[0] == "rule":
            named[claim[1]] = True
        todo.extend(more)
    return sorted(named)


def _claims(asked, value, known):
    if not isinstance(value, tuple) or len(value) == 0:
        return None
    word = value[0]
    if word == "rule":
        return _claims_of_rule(asked, value, known) if len(value) == 3 else None
    if word == "above":
        return _claims_of_split(asked.sets, value[:3], value[3:], known)
    if word == "way":
        return _claims_of_split(asked.sets, ("left", *value[1:2]), value[2:], known)
    if word == "held":
        return [] if len(value) == 3 and _is_held(asked, value[1], value[2], known) else None
    return [] if shows_clash(asked.sets.signs, asked.sets.told(known), value) else None


def _is_held(asked, j, i, known):
    if not is_whole(j) or j not in asked.banned or not is_number(i, len(asked.banned[j])):
        return False
    need = asked.banned[j][i]
    return need & known == need


def _claims_of_split(sets, fact, trees, known):
    if len(trees) != 2 or not is_fact(sets.signs, fact):
        return None
    return [(trees[0], known | sets.of([fact])), (trees[1], known | sets.of([opposite(fact)]))]


def _claims_of_rule(asked, value, known):
    _, k, cases = value
    if not is_whole(k) or k not in asked.wanted or not isinstance(cases, list):
        return None
    found = []
    for case in cases:
        if not is_tuple_of(case, 2) or not _are_facts(asked.sets.signs, case[0]):
            return None
        found.append((asked.sets.of(case[0]), case[1]))
    mores = list({more: True for more, _ in found})
    if not all([has_part(mores, need) for need in asked.wanted[k]]):
        return None
    return [(tree, known | more) for more, tree in found]


def _are_facts(signs, value):
    return isinstance(value, tuple) and all([is_fact(signs, fact) for fact in value])
