"""The least lengths of papers between all terms of one class."""

from samewise.closed import mark


def lengths(terms, leads, edges):
    search = Search(terms)
    for edge in edges:
        search.offer_step(edge[0], edge[1], edge[2])
    for a, b in like_pairs(terms, leads):
        search.await_arms(a, b)
    search.settle_all()
    return search.least


def like_pairs(terms, leads):
    alike = {}
    for k, term in enumerate(terms):
        if term[0] == "of":
            alike.setdefault(mark(term, leads), []).append(k)
    pairs = []
    for row in alike.values():
        for place, b in enumerate(row):
            for a in row[:place]:
                pairs.append((a, b))
    return pairs


def unlike_arms(terms, a, b):
    # The numbers of two knots at one place, wherever they are two.
    return [(x, y) for x, y in zip(terms[a][2], terms[b][2]) if x != y]


def like_length(terms, least, a, b):
    total = 1
    for x, y in unlike_arms(terms, a, b):
        total += least[x][y]
    return total


class Search:
    # Lengths are settled rising. A paper is longer than every paper that it is made of, so whatever makes up the least
    # of the lengths still waiting is settled already, and nothing settled later can make it lesser.
    def __init__(self, terms):
        self.terms = terms
        # The least length offered so far, both ways; None where there is none yet.
        self.least = [[None] * len(terms) for term in terms]
        for k in range(len(terms)):
            self.least[k][k] = 0
        # For each term the lengths that wait to be settled, by the other, greater number; and of those rows that have
        # any the least one, as (length, a, b).
        self.waiting = [{} for term in terms]
        self.heads = {}
        # The least length of a single step, by its two ends, the lower number first.
        self.single = {}
        # For each term the steps from it, as (other end, length), that are settled as a least paper by themselves.
        self.steps = [[] for term in terms]
        # For each two terms, the lower number first, the like steps that need a paper between them.
        self.awaited = {}
        self.lacking = {}

    def await_arms(self, a, b):
        needed = {}
        for x, y in unlike_arms(self.terms, a, b):
            needed[(min(x, y), max(x, y))] = True
        self.lacking[(a, b)] = len(needed)
        for ends in needed:
            self.awaited.setdefault(ends, []).append((a, b))

    def offer_step(self, a, b, length):
        best = self.least[a][b]
        if best is None or length < best:
            self.single[(min(a, b), max(a, b))] = length
            self.offer(a, b, length)

    def offer(self, a, b, length):
        self.least[a][b] = length
        self.least[b][a] = length
        low = min(a, b)
        high = max(a, b)
        self.waiting[low][high] = length
        if low not in self.heads or length < self.heads[low][0]:
            self.heads[low] = (length, low, high)

    def settle_all(self):
        while self.heads:
            head = min(self.heads.values())
            self.settle(head[1], head[2], head[0])

    def settle(self, a, b, length):
        self.waiting[a].pop(b)
        self.find_head(a)
        if self.single.get((a, b)) == length:
            self.steps[a].append((b, length))
            self.steps[b].append((a, length))
        # One step more at either end is enough: of a paper's first and last step at least one is settled ahead of the
        # rest of the paper, or the paper has two steps, and the later one of them comes upon the other here.
        self.lengthen(a, b, length)
        self.lengthen(b, a, length)
        for x, y in self.awaited.get((a, b), []):
            self.lacking[(x, y)] -= 1
            if self.lacking[(x, y)] == 0:
                self.offer_step(x, y, like_length(self.terms, self.least, x, y))

    def find_head(self, a):
        row = self.waiting[a]
        self.heads.pop(a)
        if row:
            length = min(row.values())
            for b in row:
                if row[b] == length:
                    self.heads[a] = (length, a, b)
                    break

    def lengthen(self, a, b, length):
        row = self.least[a]
        for c, more in self.steps[b]:
            if row[c] is None or length + more < row[c]:
                self.offer(a, c, length + more)
