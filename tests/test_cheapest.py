"""Points 36, 37 and 39, and points 1, 3 and 5 as far as they speak of them: prices, the cheapest member, trees taken."""

import copy
import random
import unittest

from samples import (
    Refusing, all_parts, banked, choice_faults, edge, own_cost, random_cases, slow_members,
)
from samewise import errors
from samewise.cheapest import cheapest, prices, taken
from samewise.closed import class_of, closed, marks
from samewise.texts import read, shown
from samewise.trees import depth, parts

GREAT = 10 ** 12
COSTS = ({}, {"f": 5}, {"#": 7, "@": 3}, {"f": 2, "g": 9, "h": 1, "@": 4}, {"g": GREAT}, {"x": 50, "y": 60})


def told_case(rows, edges=()):
    terms = banked(*rows).terms
    return terms, closed(terms, list(edges))


def tree_cost(tree, costs):
    return sum(own_cost(part, costs) for part in all_parts(tree))


class Prices(unittest.TestCase):
    def test_no_terms(self):
        self.assertEqual(prices([], [], {}), [])

    def test_without_costs_every_part_costs_one(self):
        terms, leads = told_case(["f(g(x), 3, g(x))"])
        # x g(x) 3 f
        self.assertEqual(prices(terms, leads, {}), [1, 2, 1, 6])

    def test_costs_of_words_numbers_and_names(self):
        terms, leads = told_case(["f(g(x), 3, g(x))", "-70"])
        self.assertEqual(prices(terms, leads, {"#": 10}), [1, 2, 10, 15, 10])
        self.assertEqual(prices(terms, leads, {"@": 100}), [100, 101, 1, 204, 1])
        self.assertEqual(prices(terms, leads, {"g": 1000}), [1, 1001, 1, 2004, 1])
        self.assertEqual(prices(terms, leads, {"f": GREAT, "g": 5, "#": 1, "@": 2}), [2, 7, 1, GREAT + 15, 1])

    def test_the_word_of_a_name_is_no_key(self):
        terms, leads = told_case(["f(f)", "x"])
        self.assertEqual(prices(terms, leads, {"f": 10, "x": 99}), [1, 11, 1])

    def test_a_word_costs_the_same_with_any_number_of_arms(self):
        terms, leads = told_case(["f(x)", "f(x, x)", "f(x, x, x, x)"])
        self.assertEqual(prices(terms, leads, {"f": 10}), [1, 11, 12, 14])

    def test_the_least_of_a_class(self):
        terms, leads = told_case(["f(g(x))", "y", "h(f(g(x)))"], [edge(2, 3)])
        # x g(x) f(g(x)) y h: f(g(x)) is y.
        self.assertEqual(prices(terms, leads, {}), [1, 2, 1, 1, 2])
        self.assertEqual(prices(terms, leads, {"@": 5}), [5, 6, 5, 5, 6])
        self.assertEqual(prices(terms, leads, {"f": GREAT, "h": GREAT}), [1, 2, 1, 1, GREAT + 1])

    def test_members_of_arms_are_chosen_anew(self):
        # x y k(x) f(k(x)), with k(x) the same as y: f(y) isn't held, but is a member.
        terms, leads = told_case(["x", "y", "f(k(x))"], [edge(1, 2)])
        self.assertEqual(prices(terms, leads, {}), [1, 1, 1, 2])

    def test_terms_that_hold_themselves(self):
        terms, leads = told_case(["plus(x, 0)", "times(plus(x, 0), 1)"], [edge(0, 2), edge(2, 4)])
        self.assertEqual(prices(terms, leads, {}), [1, 1, 1, 1, 1])
        self.assertEqual(prices(terms, leads, {"@": 50}), [50, 1, 50, 1, 50])
        terms, leads = told_case(["f(f(f(x)))", "3"], [edge(0, 2), edge(3, 4)])
        self.assertEqual(prices(terms, leads, {"@": 90}), [2, 1, 2, 1, 1])

    def test_a_price_that_goes_from_term_to_term_upwards(self):
        # h(k(b)), the cheap term of f(a)'s class, stands behind g(f(a)), so no single walk is enough.
        terms, leads = told_case(["f(a)", "g(f(a))", "k(b)", "h(k(b))"], [edge(0, 4), edge(1, 5)])
        self.assertEqual(prices(terms, leads, {"f": 100, "h": 1}), [1, 2, 3, 1, 1, 2])

    def test_prices_that_double(self):
        terms = [("name", "x")] + [("of", "f", (k, k)) for k in range(399)]
        self.assertEqual(prices(terms, list(range(400)), {"f": GREAT})[399], (2 ** 399 - 1) * GREAT + 2 ** 399)

    def test_against_all_members(self):
        seen = 0
        for terms, edges in random_cases(120, most=9, seed=41):
            leads = closed(terms, edges)
            found = slow_members(terms, leads)
            for costs in COSTS if found else ():
                least = {lead: min(tree_cost(tree, costs) for tree in found[lead]) for lead in found}
                self.assertEqual(prices(terms, leads, costs), [least[lead] for lead in leads], (terms, edges, costs))
                seen += 1
        self.assertGreater(seen, 300)


class Choices(Refusing, unittest.TestCase):
    def check(self, terms, leads, costs, k):
        told = cheapest(terms, leads, costs, k)
        self.assertIs(type(told), tuple)
        price, choice = told
        self.assertEqual(price, prices(terms, leads, costs)[k])
        self.assertEqual(choice_faults(terms, leads, choice, k), [])
        return price, choice

    def test_a_leaf(self):
        terms, leads = told_case(["x", "3"])
        self.assertEqual(cheapest(terms, leads, {}, 1), (1, [(1, 1)]))

    def test_a_knot(self):
        terms, leads = told_case(["f(x, g(x))"])
        self.assertEqual(self.check(terms, leads, {}, 2), (4, [(0, 0), (1, 1), (2, 2)]))

    def test_only_what_is_needed(self):
        terms, leads = told_case(["f(x, g(x))", "y"], [edge(2, 3)])
        self.assertEqual(cheapest(terms, leads, {}, 2), (1, [(2, 3)]))
        self.assertEqual(cheapest(terms, leads, {}, 3), (1, [(2, 3)]))

    def test_the_member_costs_the_price_and_is_of_the_class(self):
        source = random.Random(43)
        for terms, edges in random_cases(150, most=16, seed=44):
            leads = closed(terms, edges)
            costs = source.choice(COSTS)
            for k in range(len(terms)):
                price, choice = self.check(terms, leads, costs, k)
                tree = taken(terms, leads, choice)
                self.assertEqual(tree_cost(tree, costs), price)
                self.assertEqual(class_of(marks(terms, leads), leads, tree), leads[k])

    def test_a_chain_of_four_hundred(self):
        terms = [("name", "x")] + [("of", "f", (k,)) for k in range(399)]
        leads = list(range(400))
        price, choice = self.check(terms, leads, {}, 399)
        self.assertEqual((price, len(choice)), (400, 400))
        leads = closed(terms, [edge(399, 0)])
        self.assertEqual(self.check(terms, leads, {}, 399)[0], 1)


class Taking(Refusing, unittest.TestCase):
    def test_the_tree_of_the_last_row(self):
        terms, leads = told_case(["x", "y", "f(k(x), x)"], [edge(1, 2)])
        # x y k(x) f: k(x) is y.
        self.assertEqual(shown(taken(terms, leads, [(0, 0), (1, 1), (3, 3)])), "f(y, x)")
        self.assertEqual(shown(taken(terms, leads, [(0, 0), (1, 2), (3, 3)])), "f(k(x), x)")
        self.assertEqual(shown(taken(terms, leads, [(1, 1)])), "y")
        self.assertEqual(taken(terms, leads, [(0, 0)]), ("name", "x"))

    def test_a_term_that_is_not_the_least_of_its_mark(self):
        # f(x) and f(y) with x the same as y: either may be chosen, and stands for the same member.
        terms, leads = told_case(["f(x)", "f(y)"], [edge(0, 2)])
        self.assertEqual(shown(taken(terms, leads, [(0, 2), (1, 1)])), "f(y)")
        self.assertEqual(shown(taken(terms, leads, [(0, 0), (1, 3)])), "f(x)")

    def test_five_hundred_parts_and_one_more(self):
        # g with three arms of 166 parts each, and one more with an arm beside them.
        terms = [("name", "x")]
        sizes = [1]
        while sizes[-1] != 166:
            # Each knot is over the one below, and over it once more where that fits.
            twice = 2 * sizes[-1] + 1 in (3, 5, 9, 10, 20, 41, 82, 165)
            below = len(terms) - 1
            terms.append(("of", "f", (below, below) if twice else (below,)))
            sizes.append(2 * sizes[-1] + 1 if twice else sizes[-1] + 1)
        last = len(terms) - 1
        terms += [("of", "g", (last,) * 3), ("of", "g", (last,) * 3 + (0,))]
        leads = list(range(len(terms)))
        price, choice = cheapest(terms, leads, {}, last + 1)
        self.assertEqual(price, 499)
        self.assertEqual(parts(taken(terms, leads, choice)), 499)
        price, choice = cheapest(terms, leads, {}, last + 2)
        self.assertEqual(price, 500)
        self.assertEqual(parts(taken(terms, leads, choice)), 500)
        terms += [("of", "h", (last + 2,))]
        leads = list(range(len(terms)))
        price, choice = cheapest(terms, leads, {}, last + 3)
        self.assertEqual(price, 501)
        self.refused(errors.TooBig, taken, terms, leads, choice)

    def test_sixty_deep_and_one_more(self):
        terms = [("name", "x")] + [("of", "f", (k,)) for k in range(70)]
        leads = list(range(71))
        tree = taken(terms, leads, cheapest(terms, leads, {}, 59)[1])
        self.assertEqual((depth(tree), parts(tree)), (60, 60))
        self.refused(errors.TooBig, taken, terms, leads, cheapest(terms, leads, {}, 60)[1])
        self.refused(errors.TooBig, taken, terms, leads, cheapest(terms, leads, {}, 70)[1])

    def test_sizes_that_double(self):
        terms = [("name", "x")] + [("of", "f", (k, k)) for k in range(399)]
        leads = list(range(400))
        self.assertEqual(parts(taken(terms, leads, cheapest(terms, leads, {}, 7)[1])), 255)
        for k in (8, 399):
            self.refused(errors.TooBig, taken, terms, leads, cheapest(terms, leads, {}, k)[1])

    def test_the_size_is_that_of_the_chosen_member(self):
        # A great term in a class with a small member.
        terms = [("name", "x")] + [("of", "f", (k, k)) for k in range(20)] + [("name", "y")]
        leads = closed(terms, [edge(20, 21)])
        self.assertEqual(taken(terms, leads, cheapest(terms, leads, {}, 20)[1]), ("name", "y"))
        great = cheapest(terms, leads, {"@": GREAT}, 20)
        self.assertEqual(taken(terms, leads, great[1]), ("name", "y"))


class Kept(unittest.TestCase):
    def test_what_is_handed_in_stays_as_it_was(self):
        for terms, edges in random_cases(15):
            leads, costs = closed(terms, edges), {"f": 3, "#": 2}
            choice = cheapest(terms, leads, costs, 0)[1]
            before = copy.deepcopy((terms, leads, costs, choice))
            prices(terms, leads, costs), cheapest(terms, leads, costs, 0), taken(terms, leads, choice)
            self.assertEqual((terms, leads, costs, choice), before)

    def test_what_is_told_is_the_askers_own(self):
        terms, leads = told_case(["f(x)"])
        prices(terms, leads, {}).clear()
        cheapest(terms, leads, {}, 1)[1].clear()
        self.assertEqual(prices(terms, leads, {}), [1, 2])
        self.assertEqual(cheapest(terms, leads, {}, 1), (2, [(0, 0), (1, 1)]))
        self.assertEqual(read("f(x)"), taken(terms, leads, [(0, 0), (1, 1)]))


if __name__ == "__main__":
    unittest.main()
