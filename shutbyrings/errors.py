"""The errors of the package.

Their messages are fixed: what was handed in may be too deep to be shown.
"""


class RingError(ValueError):
    """An error of this package."""


class NoList(RingError):
    def __init__(self):
        super().__init__("a list is asked for")


class NoTuple(RingError):
    def __init__(self):
        super().__init__("a tuple is asked for")


class BadCount(RingError):
    def __init__(self):
        super().__init__("there are too few or too many signs")


class BadSign(RingError):
    def __init__(self, number):
        super().__init__("an element is no sign, or its name stands in an earlier one")
        self.number = number


class NoSign(RingError):
    def __init__(self, name):
        super().__init__("no sign has this name")
        self.name = name


class BadTerm(RingError):
    def __init__(self, value):
        super().__init__("a value is no term over the signs")
        self.value = value


class BadNames(RingError):
    def __init__(self):
        super().__init__("not all names of the signs, each once")


class BadLots(RingError):
    def __init__(self):
        super().__init__("not names of signs of arity 2 or 3, each at most once")


class BadFact(RingError):
    def __init__(self, number):
        super().__init__("an element is no fact of the signs")
        self.number = number


class NotPossible(RingError):
    def __init__(self):
        super().__init__("no order fits the facts")


class BadRule(RingError):
    def __init__(self, number):
        super().__init__("an element is no tuple of two terms")
        self.number = number


class BadBar(RingError):
    def __init__(self, number):
        super().__init__("an element is no tuple of two terms")
        self.number = number


class NoRule(RingError):
    def __init__(self, number):
        super().__init__("no rule has this number")
        self.number = number


class Unlike(RingError):
    def __init__(self):
        super().__init__("the signs differ")


class NotServed(RingError):
    def __init__(self, tree):
        super().__init__("no order serves the book")
        self.tree = tree


class Misfit(RingError):
    def __init__(self):
        super().__init__("the order does not fit the facts or does not serve the book")


class TooMany(RingError):
    def __init__(self):
        super().__init__("more terms are reached than are allowed")


class NoOrder(RingError):
    def __init__(self, number):
        super().__init__("no order has this number")
        self.number = number


class BadSeen(RingError):
    def __init__(self, number):
        super().__init__("an element is no comparison that was seen")
        self.number = number


class NoFact(RingError):
    def __init__(self, fact):
        super().__init__("this fact is not claimed")
        self.fact = fact


class NoMark(RingError):
    def __init__(self, number):
        super().__init__("no mark that stands has this number")
        self.number = number


class BadText(RingError):
    def __init__(self, line):
        super().__init__("a line of the text is wrong")
        self.line = line
