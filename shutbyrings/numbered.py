"""Numbers for terms, so that terms of any depth are compared at once.

Terms that are told may be put into each other again and again, far deeper than
Python calls itself or compares tuples. So nothing here follows a term by recursion.
"""


def folded(root, children, made):
    """What made(node, list of the children's) tells of the root of a tree, each time a new list."""
    done = []
    todo = [(root, None)]
    while todo:
        node, below = todo.pop()
        if below is None:
            below = children(node)
            todo.append((node, below))
            todo.extend([(child, None) for child in below[::-1]])
        else:
            first = len(done) - len(below)
            told = done[first:]
            del done[first:]
            done.append(made(node, told))
    return done[0]


def arguments(term):
    """The list of the arguments of a term: none if it is a variable."""
    return [] if isinstance(term, str) else list(term[1:])


class Numbered:
    """Unlike terms by numbers; the parts of a term have smaller numbers than the term.

    Of each number n: terms[n] is the term, heads[n] its sign or None for a variable,
    places[n] the tuple of the numbers of its arguments.
    """

    def __init__(self):
        self.terms = []
        self.heads = []
        self.places = []
        self._known = {}

    def take(self, term):
        """The number of a term, which is taken in with all its parts."""
        return folded(term, arguments, self._take_whole)

    def _take_whole(self, term, places):
        head = None if isinstance(term, str) else term[0]
        key = (term,) if head is None else (head, *places)
        if key not in self._known:
            self._known[key] = len(self.terms)
            self.terms.append(term)
            self.heads.append(head)
            self.places.append(tuple(places))
        return self._known[key]

    def composed(self, head, places):
        """The number of the term with a sign and, as its arguments, the terms with some numbers."""
        known = self._known.get((head, *places))
        if known is None:
            known = self._take_whole((head, *[self.terms[a] for a in places]), places)
        return known

    def with_argument(self, number, i, other):
        """The number of a term with another argument at a place."""
        places = self.places[number]
        return self.composed(self.heads[number], (*places[:i], other, *places[i + 1:]))

    def parts_of(self, number):
        """The numbers of the parts of a term, each where it is met first."""
        met = {}
        todo = [number]
        while todo:
            part = todo.pop()
            if part not in met:
                met[part] = True
                todo.extend(self.places[part][::-1])
        return list(met)

    def first_unlike(self, u, v):
        """The first place at which two terms with the same sign have unlike arguments."""
        same = [a == b for a, b in zip(self.places[u], self.places[v])]
        return same.index(False)

    def left_over(self, u, v):
        """The places of u and those of v that are left when equal arguments are taken away pairwise."""
        kept = list(range(len(self.places[u])))
        over = []
        for j, b in enumerate(self.places[v]):
            same = [i for i in kept if self.places[u][i] == b]
            if same:
                kept.remove(same[0])
            else:
                over.append(j)
        return kept, over

    def at(self, u, i, v, j):
        """The pair of argument i of u and argument j of v."""
        return self.places[u][i], self.places[v][j]
