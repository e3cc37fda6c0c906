"""Point 38, and points 1 and 5 as far as they speak of it: the cheapest member with shared parts counted once."""

import copy
import random
import unittest

from samples import (
    Refusing, all_parts, banked, choice_faults, edge, own_cost, random_cases, slow_members,
)
from samewise import errors
from samewise.cheapest import cheapest, taken
from samewise.closed import class_of, closed, marks, nodes
from samewise.shared import sharing
from samewise.texts import shown

GREAT = 10 ** 12
COSTS = ({}, {"f": 5}, {"#": 7, "@": 3}, {"f": 2, "g": 9, "h": 1, "@": 4}, {"g": GREAT})


def once_cost(tree, costs):
    return sum(own_cost(part, costs) for part in set(all_parts(tree)))


def rows_cost(terms, choice, costs):
    return sum(own_cost(terms[k], costs) for _, k in choice)


def slow_ways(terms, leads, k):
    reached = {leads[k]}
    while True:
        more = {leads[n] for j, term in enumerate(terms) if leads[j] in reached and term[0] == "of" for n in term[2]}
        if more <= reached:
            break
        reached |= more
    ways = 1
    for lead in reached:
        ways *= len(nodes(terms, leads)[lead])
    return ways


def words(many):
    return [a + b for a in "abcdefghijklmnopqrst" for b in "abcdefghijklmnopqrst"][:many]


def wide(*counts):
    """Terms with a class of so many names for each count, and one knot over them all; told with its number."""
    terms, edges, firsts = [], [], []
    for place, count in enumerate(counts):
        firsts.append(len(terms))
        for word in words(count):
            edges.append(edge(firsts[-1], len(terms)))
            terms.append(("name", "abcd"[place] + word))
    terms.append(("of", "f", tuple(firsts)))
    return terms, edges, len(terms) - 1


class Sharing(Refusing, unittest.TestCase):
    def check(self, terms, leads, costs, k):
        told = sharing(terms, leads, costs, k)
        self.assertIs(type(told), tuple)
        price, choice = told
        self.assertEqual(choice_faults(terms, leads, choice, k), [])
        self.assertEqual(price, rows_cost(terms, choice, costs))
        return price, choice

    def test_a_leaf_and_a_knot(self):
        terms = banked("f(g(x), g(x))").terms
        self.assertEqual(sharing(terms, [0, 1, 2], {}, 0), (1, [(0, 0)]))
        self.assertEqual(sharing(terms, [0, 1, 2], {}, 2), (3, [(0, 0), (1, 1), (2, 2)]))

    def test_shared_parts_count_once(self):
        terms = banked("f(g(x), g(x))").terms
        self.assertEqual(cheapest(terms, [0, 1, 2], {}, 2)[0], 5)
        self.assertEqual(self.check(terms, [0, 1, 2], {"g": 10, "@": 5}, 2)[0], 16)

    def test_another_member_than_the_cheapest(self):
        # f(p(x), p(x)) is told to be h(x): f costs less only where p(x) counts once.
        terms = banked("f(p(x), p(x))", "h(x)").terms
        leads = closed(terms, [edge(2, 3)])
        costs = {"p": 10, "h": 15}
        self.assertEqual(shown(taken(terms, leads, cheapest(terms, leads, costs, 2)[1])), "h(x)")
        price, choice = self.check(terms, leads, costs, 2)
        self.assertEqual((price, shown(taken(terms, leads, choice))), (12, "f(p(x), p(x))"))

    def test_a_dearer_part_that_is_there_already(self):
        # v is told to be q(p(u)): where p(u) stands there anyway, only q is to be paid.
        terms = banked("f(p(u), q(p(u)))", "g(v)").terms
        # u p(u) q(p(u)) f v g(v)
        leads = closed(terms, [edge(2, 4)])
        costs = {"@": 5, "p": 6}
        self.assertEqual(shown(taken(terms, leads, cheapest(terms, leads, costs, 3)[1])), "f(p(u), v)")
        price, choice = self.check(terms, leads, costs, 3)
        self.assertEqual((price, shown(taken(terms, leads, choice))), (13, "f(p(u), q(p(u)))"))
        price, choice = self.check(terms, leads, costs, 5)
        self.assertEqual((price, shown(taken(terms, leads, choice))), (6, "g(v)"))

    def test_a_class_that_holds_itself(self):
        terms = banked("f(x, x)", "3").terms
        leads = closed(terms, [edge(0, 1)])
        self.assertEqual(self.check(terms, leads, {"@": 50}, 1), (50, [(0, 0)]))
        leads = closed(terms, [edge(0, 1), edge(0, 2)])
        self.assertEqual(self.check(terms, leads, {"@": 50}, 1), (1, [(0, 2)]))

    def test_two_classes_that_hold_one_another(self):
        # x is f(y), and y is g(x): one of them must be the name.
        terms = banked("f(y)", "g(x)").terms
        leads = closed(terms, [edge(2, 1), edge(0, 3)])
        self.assertEqual(shown(taken(terms, leads, self.check(terms, leads, {"g": 9}, 1)[1])), "x")
        terms = banked("f(y)", "g(x)", "h(f(y), g(x))").terms
        leads = closed(terms, [edge(2, 1), edge(0, 3)])
        price, choice = self.check(terms, leads, {"@": 10}, 4)
        self.assertEqual(price, 12)

    def test_against_all_members(self):
        source = random.Random(51)
        seen = unlike = 0
        for terms, edges in random_cases(160, most=9, seed=52):
            leads = closed(terms, edges)
            found = slow_members(terms, leads, most=1500)
            if not found:
                continue
            costs = source.choice(COSTS)
            for k in range(len(terms)):
                if slow_ways(terms, leads, k) > 200:
                    self.refused(errors.TooWide, sharing, terms, leads, costs, k)
                    continue
                price, choice = self.check(terms, leads, costs, k)
                self.assertEqual(price, min(once_cost(tree, costs) for tree in found[leads[k]]))
                tree = taken(terms, leads, choice)
                self.assertEqual(class_of(marks(terms, leads), leads, tree), leads[k])
                self.assertEqual(once_cost(tree, costs), price)
                seen += 1
                unlike += price < once_cost(taken(terms, leads, cheapest(terms, leads, costs, k)[1]), costs)
        self.assertGreater(seen, 400)
        self.assertGreater(unlike, 0)


class Width(Refusing, unittest.TestCase):
    def test_one_class(self):
        for many in (1, 199, 200):
            terms, edges, k = wide(many)
            self.assertEqual(sharing(terms, closed(terms, edges), {}, k)[0], 2)
        terms, edges, k = wide(201)
        leads = closed(terms, edges)
        self.refused(errors.TooWide, sharing, terms, leads, {}, k)
        self.refused(errors.TooWide, sharing, terms, leads, {}, 0)

    def test_the_product_counts(self):
        for counts in ((50, 4), (4, 50), (2, 100), (5, 5, 8), (2, 2, 5, 10)):
            terms, edges, k = wide(*counts)
            self.assertEqual(sharing(terms, closed(terms, edges), {}, k)[0], 1 + len(counts))
        for counts in ((67, 3), (3, 67), (2, 101), (6, 6, 6), (4, 4, 4, 4), (201, 1), (1, 1, 201)):
            terms, edges, k = wide(*counts)
            self.refused(errors.TooWide, sharing, terms, closed(terms, edges), {}, k)

    def test_nodes_count_and_not_terms(self):
        # Two hundred names of one class, and as many knots over them with one mark.
        terms = [("name", word) for word in words(190)] + [("of", "f", (k,)) for k in range(190)]
        leads = closed(terms, [edge(0, k) for k in range(190)])
        self.assertEqual(nodes(terms, leads)[190], [190])
        self.assertEqual(sharing(terms, leads, {}, 300)[0], 2)

    def test_only_classes_that_can_be_come_to_count(self):
        terms, edges, k = wide(201)
        terms += [("num", 3), ("of", "g", (k + 1,))]
        leads = closed(terms, edges)
        self.assertEqual(sharing(terms, leads, {}, k + 2), (2, [(k + 1, k + 1), (k + 2, k + 2)]))

    def test_all_terms_of_a_class_lead_on(self):
        # 3 is the cheap member, but the class's other term leads to the wide class.
        terms, edges, k = wide(201)
        terms += [("num", 3)]
        leads = closed(terms, edges + [edge(k, k + 1)])
        self.refused(errors.TooWide, sharing, terms, leads, {}, k + 1)
        terms, edges, k = wide(100)
        terms += [("num", 3)]
        leads = closed(terms, edges + [edge(k, k + 1)])
        self.assertEqual(sharing(terms, leads, {}, k + 1), (1, [(k, k + 1)]))

    def test_against_the_words(self):
        refused = told = 0
        source = random.Random(53)
        for _ in range(60):
            terms = [("name", word) for word in words(20)]
            while len(terms) < 30:
                term = ("of", source.choice("fg"), (source.randrange(len(terms)), source.randrange(len(terms))))
                terms += [] if term in terms else [term]
            edges = [edge(k % 3, k) for k in range(3, source.randint(6, 20))]
            leads = closed(terms, edges + [edge(source.randrange(30), source.randrange(30))])
            for k in range(0, len(terms), 3):
                if slow_ways(terms, leads, k) > 200:
                    self.refused(errors.TooWide, sharing, terms, leads, {}, k)
                    refused += 1
                else:
                    price, choice = sharing(terms, leads, {}, k)
                    self.assertEqual(choice_faults(terms, leads, choice, k), [])
                    told += 1
        self.assertGreater(refused, 5)
        self.assertGreater(told, 100)

    def test_a_chain_of_four_hundred(self):
        terms = [("name", "x")] + [("of", "f", (k,)) for k in range(399)]
        price, choice = sharing(terms, list(range(400)), {}, 399)
        self.assertEqual((price, len(choice)), (400, 400))

    def test_sizes_that_double(self):
        terms = [("name", "x")] + [("of", "f", (k, k)) for k in range(399)]
        leads = list(range(400))
        price, choice = sharing(terms, leads, {"f": GREAT}, 399)
        self.assertEqual(price, 399 * GREAT + 1)
        self.refused(errors.TooBig, taken, terms, leads, choice)


class Kept(unittest.TestCase):
    def test_what_is_handed_in_stays_as_it_was(self):
        for terms, edges in random_cases(15, most=8):
            leads, costs = closed(terms, edges), {"f": 3, "#": 2}
            before = copy.deepcopy((terms, leads, costs))
            sharing(terms, leads, costs, 0)
            self.assertEqual((terms, leads, costs), before)

    def test_what_is_told_is_the_askers_own(self):
        terms = banked("f(x)").terms
        sharing(terms, [0, 1], {}, 1)[1].clear()
        self.assertEqual(sharing(terms, [0, 1], {}, 1), (2, [(0, 0), (1, 1)]))


if __name__ == "__main__":
    unittest.main()
