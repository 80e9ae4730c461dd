"""Kinds of plain values."""

SMALL = "abcdefghijklmnopqrstuvwxyz"
CAPITAL = "ABCDEFGHIJKLMNOPQRSTUVWXYZ"
MOST_LETTERS = 8


def is_whole(value):
    """Whether a value is an integer, which True and False are not."""
    return isinstance(value, int) and not isinstance(value, bool)


def is_number(value, many):
    """Whether a value is an integer from 0 on that is less than many."""
    return is_whole(value) and 0 <= value < many


def is_ascending(value, many):
    """Whether a value is an ascending list of unlike integers from 0 on that are less than many."""
    if not isinstance(value, list) or not all([is_number(number, many) for number in value]):
        return False
    return all([one < other for one, other in zip(value, value[1:])])


def is_word(value, letters):
    """Whether a value is a string of one to eight of the letters."""
    if not isinstance(value, str) or not 1 <= len(value) <= MOST_LETTERS:
        return False
    return all([letter in letters for letter in value])


def is_tuple_of(value, many):
    """Whether a value is a tuple with so many items."""
    return isinstance(value, tuple) and len(value) == many


def is_list_of(value, many):
    """Whether a value is a list with so many items."""
    return isinstance(value, list) and len(value) == many


def is_choice(value, names):
    """Whether a value is a list of some of a list of names, each at most once."""
    if not isinstance(value, list):
        return False
    met = {}
    for name in value:
        if name not in names or name in met:
            return False
        met[name] = True
    return True
