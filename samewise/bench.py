"""A bench: a bank, and the edges that tell which of its terms are the same."""

from samewise.bank import Bank
from samewise.closed import closed
from samewise.errors import Full


class Bench:
    def __init__(self, room):
        self.bank = Bank(room)
        self.edges = []

    def put(self, tree):
        return self.bank.put(tree)

    def pair(self, one, other):
        many = len(self.bank.terms)
        try:
            a = self.bank.put(one)
            b = self.bank.put(other)
        except Full:
            # The first tree may have gone in already.
            self.bank.cut(many)
            raise Full("there is no room for both trees") from None
        return (a, b)

    def tell(self, one, other, weight=1):
        ends = self.pair(one, other)
        self.edges.append((ends[0], ends[1], weight, ("told",)))
        return len(self.edges) - 1


def leads_of(bench):
    return closed(bench.bank.terms, bench.edges)
