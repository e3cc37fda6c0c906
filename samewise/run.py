"""Doing the orders of a sheet on one bench."""

from samewise.bench import Bench, leads_of
from samewise.cheapest import cheapest, taken
from samewise.errors import Apart, Full, TooBig, TooWide
from samewise.grow import grow
from samewise.kinds import Names, Signs
from samewise.learn import learned, numbers
from samewise.papers import paper
from samewise.ruletext import show_mask
from samewise.shared import sharing
from samewise.sheet import read_sheet
from samewise.texts import shown


def run(text, room=120):
    # The whole sheet first, so that nothing is done where a row is refused.
    orders = read_sheet(text)
    runner = Runner(room)
    answers = []
    for order in orders:
        answer = runner.do_order(order)
        if answer is not None:
            answers.append(answer)
    return answers


class Runner:
    def __init__(self, room):
        self.bench = Bench(room)
        self.rules = []
        self.costs = {}

    def do_order(self, order):
        # The answer, or None where the order gives none.
        if order[0] == "rule":
            self.rules.append(order[1])
            return None
        if order[0] == "cost":
            self.costs[order[1]] = order[2]
            return None
        if order[0] == "grow":
            ended = grow(self.bench, self.rules, order[1], order[2])
            return ("grow", ended[0], ended[1])
        try:
            return self.do_with_trees(order)
        except Full:
            return ("refused", "full")

    def do_with_trees(self, order):
        word = order[0]
        if word == "tell":
            self.bench.tell(order[1], order[2])
            return None
        if word == "same" or word == "why":
            ends = self.bench.pair(order[1], order[2])
            return self.answer_pair(word, ends[0], ends[1])
        k = self.bench.put(order[1])
        if word == "put":
            return None
        return self.answer_tree(word, k)

    def answer_pair(self, word, a, b):
        terms = self.bench.bank.terms
        leads = leads_of(self.bench)
        if word == "same":
            return ("same", leads[a] == leads[b])
        try:
            book = paper(terms, leads, self.bench.edges, a, b)
        except Apart:
            return ("refused", "apart")
        return ("why", book, list(terms), list(self.bench.edges))

    def answer_tree(self, word, k):
        terms = self.bench.bank.terms
        leads = leads_of(self.bench)
        if word == "sign":
            return ("sign", show_mask(learned(Signs(terms, leads))[0][k]))
        if word == "names":
            return ("names", names_of(terms, leads, k))
        if word == "number":
            return ("number", numbers(terms, leads, k))
        try:
            return self.answer_price(word, terms, leads, k)
        except TooWide:
            return ("refused", "wide")
        except TooBig:
            return ("refused", "big")

    def answer_price(self, word, terms, leads, k):
        if word == "cheap":
            found = cheapest(terms, leads, self.costs, k)
        else:
            found = sharing(terms, leads, self.costs, k)
        return (word, found[0], shown(taken(terms, leads, found[1])))


def names_of(terms, leads, k):
    names = Names(terms, leads)
    known = learned(names)[0]
    return [word for word in names.held if not names.free(known, k, word)]
