"""Texts of terms, books, facts and orders."""

from shutbyrings.books import Book
from shutbyrings.errors import BadTerm, BadText
from shutbyrings.facts import is_fact, look_at_facts
from shutbyrings.kinds import SMALL, is_choice, is_word
from shutbyrings.numbered import arguments, folded
from shutbyrings.orders import Order
from shutbyrings.terms import MOST_SIGNS, Signs, is_term

ARITIES = {"0": 0, "1": 1, "2": 2, "3": 3}
ARROW = " -> "


def show_term(signs, term):
    """The text of a term."""
    if not is_term(signs, term):
        raise BadTerm(term)
    return _text_of(term)


def _text_of(term):
    return folded(term, arguments, _text_with)


def _text_with(term, told):
    if isinstance(term, str):
        return term
    inside = ", ".join(told)
    return f"{term[0]}({inside})" if told else term[0]


def show_book(book):
    """The text of a book."""
    signs = [f"sign {name} {book.signs.arity(name)}" for name in book.signs.names]
    rules = ["rule " + _text_of_pair(pair) for pair in book.rules]
    return "\n".join(signs + rules + ["barred " + _text_of_pair(pair) for pair in book.barred])


def _text_of_pair(pair):
    return _text_of(pair[0]) + ARROW + _text_of(pair[1])


def show_facts(signs, facts):
    """The text of facts."""
    look_at_facts(signs, facts)
    return "\n".join([" ".join(fact) for fact in facts])


def show_order(order):
    """The text of an order."""
    return "\n".join([" ".join(["order"] + order.names)] + ["lots " + name for name in order.lots])


def read_term(signs, text):
    """The term with a text."""
    term = _term_of(signs, text) if isinstance(text, str) else None
    if term is None:
        raise BadText(1)
    return term


def _term_of(signs, text):
    """The term with a text, or None.

    The words alone tell a term, as each name has an arity; all the rest is right
    exactly if this term has this text.
    """
    words = text.replace("(", " ").replace(")", " ").replace(",", " ").split()
    done = []
    for word in words[::-1]:
        if word in signs:
            first = len(done) - signs.arity(word)
            if first < 0:
                return None
            told = done[first:]
            del done[first:]
            done.append((word, *told[::-1]))
        else:
            done.append(word)
    if len(done) != 1 or not is_term(signs, done[0]) or _text_of(done[0]) != text:
        return None
    return done[0]


def _lines_of(text):
    if not isinstance(text, str):
        raise BadText(1)
    return text.split("\n")


def read_book(text):
    """The book with a text."""
    lines = _lines_of(text)
    pairs = _pairs_of_signs(lines)
    if not pairs:
        raise BadText(1)
    signs = Signs(pairs)
    rules = []
    barred = []
    for number in range(len(pairs), len(lines)):
        rule = None if barred else _pair_of(signs, "rule ", lines[number])
        pair = _pair_of(signs, "barred ", lines[number])
        if rule is not None:
            rules.append(rule)
        elif pair is not None:
            barred.append(pair)
        else:
            raise BadText(number + 1)
    return Book(signs, rules, barred)


def _pairs_of_signs(lines):
    """The signs that the first lines tell, up to a line that tells none or one too much."""
    found = {}
    for line in lines[:MOST_SIGNS]:
        words = line.split(" ")
        if len(words) != 3 or words[0] != "sign" or words[2] not in ARITIES:
            break
        if not is_word(words[1], SMALL) or words[1] in found:
            break
        found[words[1]] = ARITIES[words[2]]
    return list(found.items())


def _pair_of(signs, word, line):
    """The pair of terms that a line tells behind a word, or None."""
    sides = line[len(word):].split(ARROW)
    if not line.startswith(word) or len(sides) != 2:
        return None
    left, right = _term_of(signs, sides[0]), _term_of(signs, sides[1])
    return None if left is None or right is None else (left, right)


def read_facts(signs, text):
    """The tuple of facts with a text."""
    lines = _lines_of(text) if text != "" else []
    facts = tuple([tuple(line.split(" ")) for line in lines])
    for number, fact in enumerate(facts):
        if not is_fact(signs, fact):
            raise BadText(number + 1)
    return facts


def read_order(signs, text):
    """The order with a text."""
    lines = _lines_of(text)
    words = lines[0].split(" ")
    names = words[1:]
    if words[0] != "order" or not is_choice(names, signs.names) or len(names) != len(signs):
        raise BadText(1)
    lots = []
    rest = signs.ways
    for number, line in enumerate(lines[1:], start=2):
        found = [name for name in rest if line == "lots " + name]
        if not found:
            raise BadText(number)
        lots.append(found[0])
        rest = [name for name in rest if name > found[0]]
    return Order(signs, names, lots)
