"""Growing a bench by sums of known numbers and by rules."""

from samewise.bench import leads_of
from samewise.closed import class_of, marks
from samewise.errors import Full
from samewise.kinds import Names, Signs, is_opposite, is_product, is_sum
from samewise.learn import learned, numbers, odds
from samewise.match import holding, matches, node_numbers
from samewise.trees import holes


def news(bench, rules):
    terms = bench.bank.terms
    leads = leads_of(bench)
    if odds(terms, leads) is not None:
        return []
    found = sums(terms, leads)
    scene = Scene(terms, leads)
    for rule in rules:
        found.extend(scene.rule_news(rule))
    return found


def sums(terms, leads):
    table = marks(terms, leads)
    found = []
    for k in node_numbers(terms, leads):
        values = known_values(terms, leads, terms[k])
        if values is not None:
            result = ("num", worked_out(terms[k], values))
            if is_number(result[1]) and table.get(result) != leads[k]:
                left = ("of", terms[k][1], tuple([("num", value) for value in values]))
                found.append((("sum",), 1, left, result, {}))
    return found


def known_values(terms, leads, term):
    # The numbers that a sum, product or opposite is made of, or None where it is no such term or one of them lacks.
    if not is_sum(term) and not is_product(term) and not is_opposite(term):
        return None
    values = []
    for number in term[2]:
        standing = numbers(terms, leads, number)
        if not standing:
            return None
        values.append(standing[0])
    return values


def worked_out(term, values):
    if is_sum(term):
        return values[0] + values[1]
    if is_product(term):
        return values[0] * values[1]
    return -values[0]


def is_number(value):
    return abs(value) < 10 ** 60


class Scene:
    # What is known of a bench's terms while its rules are looked through.
    def __init__(self, terms, leads):
        self.terms = terms
        self.leads = leads
        self.table = marks(terms, leads)
        self.signs = Signs(terms, leads)
        self.names = Names(terms, leads)
        self.known_signs = learned(self.signs)[0]
        self.known_names = learned(self.names)[0]

    def rule_news(self, rule):
        found = []
        words = holes(rule.left)
        for k, binds in matches(self.terms, self.leads, rule.left):
            if self.asks_hold(rule, binds) and self.is_news(k, rule.right, binds):
                pairs = tuple([(word, binds[word]) for word in words])
                found.append((("rule", rule.title, pairs), rule.weight, rule.left, rule.right, binds))
        return found

    def asks_hold(self, rule, binds):
        return holding(rule, binds, self.signs, self.known_signs, self.names, self.known_names)

    def is_news(self, k, right, binds):
        return class_of(self.table, self.leads, right, binds) != self.leads[k]


def turn(bench, rules, size):
    return do_steps(bench, news(bench, rules)[:size])


def do_steps(bench, steps):
    many = len(bench.bank.terms)
    edges = []
    try:
        for why, weight, left, right, binds in steps:
            a = bench.bank.put(left, binds)
            b = bench.bank.put(right, binds)
            edges.append((a, b, weight, why))
    except Full:
        bench.bank.cut(many)
        raise Full("there is no room for all of the turn") from None
    bench.edges.extend(edges)
    return len(steps)


def grow(bench, rules, rounds, size=100):
    for turns in range(rounds):
        if odds(bench.bank.terms, leads_of(bench)) is not None:
            return ("odds", turns)
        steps = news(bench, rules)
        if not steps:
            return ("rest", turns)
        try:
            do_steps(bench, steps[:size])
        except Full:
            return ("full", turns)
    return ("open", rounds)
