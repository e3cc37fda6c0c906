"""A bank holds terms, each once; and the trees that the numbers of terms stand for."""

from samewise.errors import Full, TooBig

# As many parts, and as deep, as a tree that is told may be.
MOST_TOLD_PARTS = 500
MOST_TOLD_DEEP = 60


class Bank:
    def __init__(self, room):
        self.room = room
        self.terms = []
        # The number of each term, so that no putting has to go through the whole list.
        self.places = {}

    def put(self, pattern, binds=None):
        many = len(self.terms)
        try:
            return self.put_part(pattern, binds)
        except Full:
            # Some arms may have gone in already.
            self.cut(many)
            raise Full("there is no room for all of it") from None

    def put_part(self, pattern, binds):
        if pattern[0] == "any":
            return binds[pattern[1]]
        if pattern[0] != "of":
            return self.put_term(pattern)
        numbers = []
        for arm in pattern[2]:
            numbers.append(self.put_part(arm, binds))
        return self.put_term(("of", pattern[1], tuple(numbers)))

    def put_term(self, term):
        if term not in self.places:
            if len(self.terms) >= self.room:
                raise Full("as many terms as room are held")
            self.places[term] = len(self.terms)
            self.terms.append(term)
        return self.places[term]

    def find(self, tree):
        if tree[0] != "of":
            return self.places.get(tree)
        numbers = []
        for arm in tree[2]:
            number = self.find(arm)
            if number is None:
                return None
            numbers.append(number)
        return self.places.get(("of", tree[1], tuple(numbers)))

    def cut(self, many):
        while len(self.terms) > many:
            self.places.pop(self.terms.pop())


def size_of(terms, k):
    # From the lowest number up and not down from k, since one term may stand below k ever so often.
    sizes = []
    for term in terms[:k + 1]:
        sizes.append(size_above(term, sizes))
    return sizes[k]


def size_above(term, sizes):
    # `sizes` is a list, or a dict where the numbers of the term are leads; likewise in `tree_above`.
    if term[0] != "of":
        return (1, 1)
    total = 1
    deepest = 0
    for number in term[2]:
        size = sizes[number]
        total += size[0]
        deepest = max(deepest, size[1])
    return (total, deepest + 1)


def refuse_great(size):
    if size[0] > MOST_TOLD_PARTS or size[1] > MOST_TOLD_DEEP:
        raise TooBig(f"more than {MOST_TOLD_PARTS} parts or {MOST_TOLD_DEEP} deep")


def tree_of(terms, k):
    refuse_great(size_of(terms, k))
    trees = []
    for term in terms[:k + 1]:
        trees.append(tree_above(term, trees))
    return trees[k]


def tree_above(term, trees):
    if term[0] != "of":
        return term
    return ("of", term[1], tuple([trees[number] for number in term[2]]))
