"""Points 25 and 26: what is learnt, and the numbers of classes."""

import copy
import itertools
import random
import unittest

from samples import banked, edge, random_cases, random_edges
from samewise.closed import closed
from samewise.kinds import Kind, Names, Signs
from samewise.learn import learned, numbers, odds

GREAT = 10 ** 60 - 1


def arithmetic_cases(count):
    """Terms of sums, products, opposites and binds with edges over them, the same ones at each call."""
    source = random.Random(31)
    cases = []
    for _ in range(count):
        terms = [("name", "x"), ("name", "y"), ("name", "z"), ("num", 0), ("num", 2), ("num", -3)]
        while len(terms) < 16:
            word, many = source.choice([("plus", 2), ("times", 2), ("neg", 1), ("bind", 2), ("f", 2), ("plus", 3)])
            term = ("of", word, tuple(source.randrange(len(terms)) for _ in range(many)))
            if term not in terms:
                terms.append(term)
        cases.append((terms, random_edges(source, terms, source.randint(0, 4))))
    return cases


def slow_learned(kind):
    """All terms at once, over and over, until no fact loses a bit."""
    known = [kind.top()] * len(kind.terms)
    while True:
        worths = [kind.worth(term, known) for term in kind.terms]
        after = []
        for k in range(len(known)):
            fact = known[k]
            for n in range(len(known)):
                if kind.leads[n] == kind.leads[k]:
                    fact &= worths[n]
            after.append(fact)
        if after == known:
            return known
        known = after


class Learning(unittest.TestCase):
    def learn(self, make, texts, edges=()):
        terms = banked(*texts).terms
        told = learned(make(terms, closed(terms, list(edges))))
        self.assertIs(type(told), tuple)
        self.assertEqual([type(part) for part in told], [list, list])
        return told

    def test_nothing_to_learn(self):
        self.assertEqual(learned(Kind([], [])), ([], []))
        self.assertEqual(learned(Signs([], [])), ([], []))
        self.assertEqual(learned(Names([], [])), ([], []))
        self.assertEqual(self.learn(Kind, ["plus(3, neg(0))"]), ([1] * 4, []))
        self.assertEqual(self.learn(Signs, ["f(x, y)", "plus(x, y)"]), ([7] * 4, []))

    def test_signs_of_numbers_and_what_is_made_of_them(self):
        known, steps = self.learn(Signs, ["plus(times(3, -2), neg(5))", "x"])
        # 3 -2 times 5 neg plus x
        self.assertEqual(known, [4, 1, 1, 4, 1, 1, 7])
        self.assertEqual(sorted(steps), [(0, 4), (1, 1), (2, 1), (3, 4), (4, 1), (5, 1)])

    def test_a_class_learns_from_each_of_its_terms(self):
        # x is 3, so neg(x) is below nought.
        known, steps = self.learn(Signs, ["x", "3", "neg(x)", "neg(neg(x))"], [edge(0, 1)])
        self.assertEqual(known, [4, 4, 1, 4])
        self.assertEqual(steps, [(1, 4), (2, 1), (3, 4)])

    def test_a_class_learns_over_several_steps(self):
        # y is neg(times(x, 0)), which is nought, whatever x is.
        known, _ = self.learn(Signs, ["x", "y", "0", "times(x, 0)", "neg(times(x, 0))"], [edge(1, 4)])
        self.assertEqual(known, [7, 2, 2, 2, 2])

    def test_facts_that_go_down_from_a_later_term(self):
        # neg(x) stands ahead of the number that its arm is the same as.
        known, steps = self.learn(Signs, ["neg(x)", "-3"], [edge(0, 2)])
        self.assertEqual(known, [1, 4, 1])
        self.assertEqual(steps, [(2, 1), (1, 4)])

    def test_a_fact_may_come_to_nought(self):
        known, _ = self.learn(Signs, ["3", "-3", "plus(3, x)", "neg(3)", "f(3)"], [edge(0, 1)])
        self.assertEqual(known, [0, 0, 7, 0, 0, 7])

    def test_names(self):
        # x y f(x, y) bind bind
        known, steps = self.learn(Names, ["x", "y", "f(x, y)", "bind(x, f(x, y))", "bind(y, bind(x, f(x, y)))", "3"])
        self.assertEqual(known, [1, 2, 3, 2, 0, 0])
        self.assertEqual(sorted(steps), [(0, 1), (1, 2), (3, 2), (4, 0), (5, 0)])

    def test_two_names_of_one_class_lose_both_bits(self):
        known, _ = self.learn(Names, ["x", "y", "f(x)", "f(z)"], [edge(0, 1)])
        self.assertEqual(known, [0, 0, 0, 4, 4])

    def test_names_are_lost_by_sameness(self):
        # times(x, 0) is 0: neither has x in it, nor has what stands above them.
        known, _ = self.learn(Names, ["times(x, 0)", "f(times(x, 0), y)"], [edge(1, 2)])
        self.assertEqual(known, [1, 0, 0, 2, 2])

    def test_a_class_within_itself(self):
        # x is f(x, y): what is known of it is what its terms have in common.
        known, _ = self.learn(Names, ["f(x, y)", "g(f(x, y), z)"], [edge(0, 2)])
        self.assertEqual(known, [1, 2, 1, 4, 5])

    def test_a_bind_over_a_class_that_a_name_stands_in(self):
        # g(3) is x, so bind(g(3), ..) takes x out.
        known, _ = self.learn(Names, ["x", "g(3)", "bind(g(3), f(x, y))"], [edge(0, 2)])
        # x 3 g(3) y f bind; x and g(3) have nothing in common.
        self.assertEqual(known, [0, 0, 0, 2, 2, 2])
        # g(x) is x: their class keeps the bit of x, and bind takes it out.
        known, _ = self.learn(Names, ["x", "g(x)", "bind(g(x), f(x, y))"], [edge(0, 1)])
        self.assertEqual(known, [1, 1, 2, 3, 2])

    def test_the_end_by_another_way(self):
        for terms, edges in arithmetic_cases(80) + random_cases(20):
            leads = closed(terms, edges)
            for make in (Kind, Signs, Names):
                kind = make(terms, leads)
                self.assertEqual(learned(kind)[0], slow_learned(kind), (terms, edges))

    def test_each_step_can_be_done_in_its_turn(self):
        many = 0
        for terms, edges in arithmetic_cases(80):
            leads = closed(terms, edges)
            for make in (Signs, Names):
                kind = make(terms, leads)
                known, steps = learned(kind)
                facts = [kind.top()] * len(terms)
                for k, fact in steps:
                    self.assertEqual(fact, facts[k] & kind.worth(terms[k], facts))
                    self.assertNotEqual(fact, facts[k])
                    facts = [fact if leads[n] == leads[k] else facts[n] for n in range(len(terms))]
                    many += 1
                self.assertEqual(facts, known)
                self.assertTrue(all(type(step) is tuple for step in steps))
        self.assertGreater(many, 1000)


class Numbers(unittest.TestCase):
    def test_in_the_order_of_their_terms(self):
        terms = banked("9", "x", "-4", "f(x)", "7", "0").terms
        leads = closed(terms, [edge(0, 1), edge(4, 2), edge(1, 4)])
        for k in (0, 1, 2, 4):
            self.assertEqual(numbers(terms, leads, k), [9, -4, 7])
        self.assertEqual(numbers(terms, leads, 3), [])
        self.assertEqual(numbers(terms, leads, 5), [0])

    def test_great_numbers(self):
        terms = [("num", GREAT), ("num", -GREAT), ("name", "x")]
        self.assertEqual(numbers(terms, [0, 0, 0], 2), [GREAT, -GREAT])
        self.assertEqual(numbers(terms, [0, 1, 2], 1), [-GREAT])


class Odds(unittest.TestCase):
    def odds(self, values, leads):
        told = odds([("num", value) for value in values], leads)
        self.assertIn(type(told), (tuple, type(None)))
        return told

    def test_none(self):
        self.assertIsNone(odds([], []))
        self.assertIsNone(self.odds([3, 4], [0, 1]))
        terms = banked("f(x, 3)", "4", "y").terms
        self.assertIsNone(odds(terms, closed(terms, [edge(0, 1), edge(2, 3)])))

    def test_one_pair_either_way_about(self):
        self.assertEqual(self.odds([3, 4], [0, 0]), (3, 4))
        self.assertEqual(self.odds([4, 3], [0, 0]), (3, 4))
        self.assertEqual(self.odds([0, -1], [0, 0]), (-1, 0))

    def test_the_numbers_and_not_those_of_their_terms(self):
        terms = banked("x", "y", "70", "f(x)", "60").terms
        self.assertEqual(odds(terms, closed(terms, [edge(2, 4), edge(0, 4)])), (60, 70))

    def test_the_least_m_and_then_the_least_n(self):
        self.assertEqual(self.odds([9, 5, 7], [0, 0, 0]), (5, 7))
        self.assertEqual(self.odds([9, 5, 7, 2, 100], [0, 0, 0, 3, 3]), (2, 100))
        self.assertEqual(self.odds([2, 100, 9, 5, 7], [0, 0, 2, 2, 2]), (2, 100))
        self.assertEqual(self.odds([-5, 8, -50, 4, 3, -10], [0, 0, 2, 0, 0, 0]), (-10, -5))

    def test_below_nought_and_sixty_figures(self):
        self.assertEqual(self.odds([GREAT, -GREAT], [0, 0]), (-GREAT, GREAT))
        self.assertEqual(self.odds([GREAT - 1, GREAT], [0, 0]), (GREAT - 1, GREAT))
        self.assertEqual(self.odds([1 - GREAT, -GREAT, 0], [0, 0, 0]), (-GREAT, 1 - GREAT))

    def test_against_all_pairs(self):
        source = random.Random(2)
        for _ in range(200):
            values = source.sample(range(-9, 10), 7)
            places = [source.randrange(4) for _ in values]
            leads = [places.index(place) for place in places]
            pairs = [
                (m, n) for (i, m), (j, n) in itertools.product(enumerate(values), repeat=2)
                if leads[i] == leads[j] and m < n
            ]
            self.assertEqual(self.odds(values, leads), min(pairs) if pairs else None)


class Kept(unittest.TestCase):
    def test_what_is_handed_in_stays_as_it_was(self):
        for terms, edges in arithmetic_cases(10):
            leads = closed(terms, edges)
            before = copy.deepcopy((terms, leads))
            for make in (Kind, Signs, Names):
                kind = make(terms, leads)
                learned(kind)
                self.assertEqual((kind.terms, kind.leads), before)
            numbers(terms, leads, 3), odds(terms, leads)
            self.assertEqual((terms, leads), before)

    def test_what_is_told_is_the_askers_own(self):
        terms = banked("x", "3", "neg(x)").terms
        leads = [0, 0, 2]
        signs = Signs(terms, leads)
        known, steps = learned(signs)
        known.clear(), steps.clear()
        self.assertEqual(learned(signs), ([4, 4, 1], [(1, 4), (2, 1)]))
        numbers(terms, leads, 0).clear()
        self.assertEqual(numbers(terms, leads, 0), [3])


if __name__ == "__main__":
    unittest.main()
