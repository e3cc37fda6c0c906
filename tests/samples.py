"""Trees, terms and the like that several tests need, and what several tests ask."""

import random

from samewise import errors
from samewise.bank import Bank
from samewise.texts import read

REFUSALS = (
    errors.NoTree, errors.NoRule, errors.NoRow, errors.Full, errors.Apart, errors.TooBig, errors.TooWide,
)
WORDS = ("a", "x", "plus", "times", "neg", "bind", "if", "abcdefgh")


def name(word):
    return ("name", word)


def chain(deep):
    """A tree that is just so deep, with one part on each level."""
    tree = name("x")
    for _ in range(deep - 1):
        tree = ("of", "f", (tree,))
    return tree


def bushy(many):
    """A tree of just so many parts, as flat as four arms a knot allow."""
    if many == 1:
        return ("num", 7)
    count = min(4, many - 1)
    share, rest = divmod(many - 1, count)
    return ("of", "f", tuple(bushy(share + (1 if k < rest else 0)) for k in range(count)))


def comb(deep, many):
    """A tree that is just so deep and has just so many parts."""
    tree = name("x")
    lacking = many - deep
    for _ in range(deep - 1):
        extra = min(3, lacking)
        lacking -= extra
        tree = ("of", "g", (name("y"),) * extra + (tree,))
    if lacking:
        raise ValueError("so many parts don't go into so little depth")
    return tree


def random_pattern(source, deep, with_holes=True):
    kind = source.choice(["num", "name", "any", "of", "of"])
    if kind == "any" and not with_holes:
        kind = "name"
    if kind == "of" and deep > 1:
        count = source.randint(1, 4)
        arms = tuple(random_pattern(source, deep - 1, with_holes) for _ in range(count))
        return ("of", source.choice(WORDS), arms)
    if kind == "num":
        return ("num", source.choice([0, 1, -1, 10, -907, 10 ** 60 - 1, 1 - 10 ** 60]))
    return ("any" if kind == "any" else "name", source.choice(WORDS))


def random_patterns(count, with_holes=True):
    """The same ones at each call: the seed is written here."""
    source = random.Random(20)
    return [random_pattern(source, 4, with_holes) for _ in range(count)]


def banked(*texts, room=400):
    """A bank with the trees of these writings, put one behind the other."""
    bank = Bank(room)
    for text in texts:
        bank.put(read(text))
    return bank


def edge(a, b, weight=1):
    return (a, b, weight, ("told",))


def random_terms(source, many, words="fgh"):
    """So many terms, no two alike: some names and numbers first, then knots over whatever stands below."""
    terms = [("name", "x"), ("name", "y"), ("num", 0), ("num", -4)][:source.randint(1, 4)]
    while len(terms) < many:
        arms = tuple(source.randrange(len(terms)) for _ in range(source.choice([1, 1, 2, 2, 3])))
        term = ("of", source.choice(words), arms)
        if term not in terms:
            terms.append(term)
    return terms[:many]


def random_edges(source, terms, count):
    weights = (1, 1, 2, 3, 7, 10 ** 12)
    return [
        edge(source.randrange(len(terms)), source.randrange(len(terms)), source.choice(weights)) for _ in range(count)
    ]


def random_cases(count, most=14, seed=7):
    """Terms with edges over them, the same ones at each call."""
    source = random.Random(seed)
    cases = []
    for _ in range(count):
        terms = random_terms(source, source.randint(1, most))
        cases.append((terms, random_edges(source, terms, source.randint(0, 4))))
    return cases


def slow_leads(terms, edges):
    """The least sameness straight from its words: a table of pairs that grows until nothing is lacking."""
    many = range(len(terms))
    same = {(k, k) for k in many} | {(e[0], e[1]) for e in edges} | {(e[1], e[0]) for e in edges}
    while True:
        more = {(a, b) for a in many for b in many if (a, b) not in same and slowly_due(terms, same, a, b)}
        if not more:
            return [min(b for b in many if (a, b) in same) for a in many]
        same |= more


def slowly_due(terms, same, a, b):
    if any((a, c) in same and (c, b) in same for c in range(len(terms))):
        return True
    one, other = terms[a], terms[b]
    if one[0] != "of" or other[0] != "of" or one[1] != other[1] or len(one[2]) != len(other[2]):
        return False
    return all(pair in same for pair in zip(one[2], other[2]))


class Refusing:
    """For a TestCase: a refusal is of the wanted class and of no other one of the seven."""

    def refused(self, wanted, call, *given):
        with self.assertRaises(wanted) as caught:
            call(*given)
        self.assertIsInstance(caught.exception, errors.SameError)
        self.assertIsInstance(caught.exception, ValueError)
        others = tuple(refusal for refusal in REFUSALS if refusal is not wanted)
        self.assertNotIsInstance(caught.exception, others)
        return caught.exception


def slow_members(terms, leads, most=4000):
    """For each lead the members of its class, as deep as there are classes; None where they are too many to tell."""
    found = {lead: [] for lead in leads}
    for _ in range(len(found)):
        wider = {lead: {} for lead in found}
        for k, term in enumerate(terms):
            ways = [term]
            if term[0] == "of":
                arms = [()]
                for number in term[2]:
                    arms = [row + (tree,) for row in arms for tree in found[leads[number]]]
                    if len(arms) > most:
                        return None
                ways = [("of", term[1], row) for row in arms]
            for tree in ways:
                wider[leads[k]][tree] = True
        found = {lead: list(wider[lead]) for lead in wider}
        if sum(len(row) for row in found.values()) > most:
            return None
    return found


def own_cost(tree, costs):
    return costs.get({"num": "#", "name": "@"}.get(tree[0], tree[1]), 1)


def all_parts(tree):
    """Every part of a tree, each as often as it stands there."""
    found = [tree]
    if tree[0] == "of":
        for arm in tree[2]:
            found += all_parts(arm)
    return found


def choice_faults(terms, leads, choice, k):
    """The clauses of point 37 that a choice for the class of k breaks."""
    faults = []
    rows = [lead for lead, _ in choice]
    below = [[leads[n] for n in terms[j][2]] if terms[j][0] == "of" else [] for _, j in choice]
    if type(choice) is not list or any(type(row) is not tuple or len(row) != 2 for row in choice):
        faults.append("form")
    if any(leads[j] != lead for lead, j in choice):
        faults.append("k is of another class")
    if len(set(rows)) < len(rows):
        faults.append("a lead twice")
    if any(lead not in rows[:place] for place, arms in enumerate(below) for lead in arms):
        faults.append("an arm without a row above")
    if any(not any(lead in arms for arms in below[place + 1:]) for place, lead in enumerate(rows[:-1])):
        faults.append("a row that nobody needs")
    if rows[-1] != leads[k]:
        faults.append("another class at the end")
    return faults
