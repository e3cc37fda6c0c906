"""Points 18 and 19: the steps of papers and their least lengths."""

import copy
import random
import unittest

from samples import banked, edge, random_cases, random_edges, random_terms
from samewise.closed import closed
from samewise.lengths import lengths

GREAT = 10 ** 12


def told(terms, edges):
    return lengths(terms, closed(terms, edges), edges)


def slow_lengths(terms, edges):
    """Straight from the words: steps and papers are made lesser until nothing gets any lesser."""
    many = range(len(terms))
    least = {(k, k): 0 for k in many}
    for a, b, weight, _ in edges:
        for pair in ((a, b), (b, a)):
            least[pair] = min(weight, least.get(pair, weight))
    changed = True
    while changed:
        changed = False
        for a in many:
            for b in many:
                ways = [least[a, c] + least[c, b] for c in many if (a, c) in least and (c, b) in least]
                ways += like_way(terms, least, a, b)
                if ways and ((a, b) not in least or min(ways) < least[a, b]):
                    least[a, b] = min(ways)
                    changed = True
    return [[least.get((a, b)) for b in many] for a in many]


def like_way(terms, least, a, b):
    one, other = terms[a], terms[b]
    if a == b or one[0] != "of" or other[0] != "of" or one[1] != other[1] or len(one[2]) != len(other[2]):
        return []
    arms = [least.get(pair) if pair[0] != pair[1] else 0 for pair in zip(one[2], other[2])]
    return [] if None in arms else [1 + sum(arms)]


class Ordinary(unittest.TestCase):
    def test_no_terms_and_no_edges(self):
        self.assertEqual(told([], []), [])
        self.assertEqual(told(banked("x", "f(x)").terms, []), [[0, None], [None, 0]])

    def test_an_edge_counts_its_weight_either_way(self):
        for weight in (1, 5, GREAT):
            self.assertEqual(told(banked("x", "y", "z").terms, [edge(1, 0, weight)]),
                             [[0, weight, None], [weight, 0, None], [None, None, 0]])

    def test_edges_one_behind_the_other(self):
        terms = banked("a", "b", "c", "d").terms
        table = told(terms, [edge(0, 1, 3), edge(2, 1, 4), edge(2, 3, GREAT), edge(0, 3, GREAT)])
        self.assertEqual(table[0], [0, 3, 7, GREAT])
        self.assertEqual(table[3], [GREAT, GREAT + 3, GREAT, 0])

    def test_a_way_round_that_is_shorter(self):
        terms = banked("a", "b", "c").terms
        self.assertEqual(told(terms, [edge(0, 2, 10), edge(0, 1, 4), edge(1, 2, 5)])[0], [0, 4, 9])
        self.assertEqual(told(terms, [edge(0, 2, 10), edge(0, 1, 4), edge(1, 2, 7)])[0], [0, 4, 10])
        self.assertEqual(told(terms, [edge(0, 2, 10), edge(0, 1, 4), edge(1, 2, 6)])[0], [0, 4, 10])

    def test_the_lightest_of_several_edges(self):
        terms = banked("a", "b").terms
        for weights in ((5, 3, 9), (3, 9, 5), (9, 5, 3), (3, 3)):
            self.assertEqual(told(terms, [edge(0, 1, weight) for weight in weights])[0][1], 3)
        self.assertEqual(told(terms, [edge(0, 1, 5), edge(1, 0, 2)])[0][1], 2)

    def test_an_edge_from_a_term_to_itself_shortens_nothing(self):
        terms = banked("a", "b").terms
        self.assertEqual(told(terms, [edge(0, 0, 1), edge(0, 1, 3), edge(1, 1, 2)]), [[0, 3], [3, 0]])


class Likeness(unittest.TestCase):
    def test_one_and_what_the_arms_need(self):
        terms = banked("x", "y", "f(x)", "f(y)").terms
        self.assertEqual(told(terms, [edge(0, 1, 6)])[2], [None, None, 0, 7])

    def test_each_arm_is_counted_as_often_as_it_is_used(self):
        terms = banked("x", "y", "f(x, x, x)", "f(y, y, y)", "f(x, y, x)").terms
        table = told(terms, [edge(0, 1, 6)])
        self.assertEqual((table[2][3], table[2][4], table[3][4]), (19, 7, 13))

    def test_alike_numbers_count_nothing(self):
        terms = banked("x", "y", "f(x, z)", "f(y, z)").terms
        table = told(terms, [edge(0, 1, 6), edge(2, 2, 4)])
        self.assertEqual(table[3][4], 7)

    def test_likeness_within_likeness(self):
        terms = banked("x", "y", "f(x)", "f(y)", "f(f(x))", "f(f(y))", "g(f(x), f(f(x)))", "g(f(y), f(f(y)))").terms
        table = told(terms, [edge(0, 1, 10)])
        self.assertEqual((table[2][3], table[4][5], table[6][7]), (11, 12, 24))

    def test_an_edge_may_be_shorter_than_likeness_and_the_other_way_about(self):
        terms = banked("x", "y", "f(x)", "f(y)").terms
        self.assertEqual(told(terms, [edge(0, 1, 6), edge(2, 3, 5)])[2][3], 5)
        self.assertEqual(told(terms, [edge(0, 1, 6), edge(2, 3, 9)])[2][3], 7)

    def test_likeness_goes_by_the_shortest_way_between_the_arms(self):
        terms = banked("a", "b", "c", "d", "f(a)", "f(c)").terms
        edges = [edge(0, 1, 1), edge(0, 2, 100), edge(0, 3, 2), edge(2, 3, 1)]
        self.assertEqual(told(terms, edges)[4][5], 4)

    def test_likeness_over_a_third_term(self):
        # f(x, x) to f(y, y) by f(x, y) would count one step more.
        terms = banked("x", "y", "f(x, x)", "f(x, y)", "f(y, y)").terms
        self.assertEqual(told(terms, [edge(0, 1, 6)])[2], [None, None, 0, 7, 13])
        self.assertEqual(told(terms, [edge(0, 1, 6), edge(2, 3, 1)])[2], [None, None, 0, 1, 8])

    def test_a_like_step_between_other_steps(self):
        terms = banked("x", "y", "f(x)", "f(y)", "a", "b").terms
        table = told(terms, [edge(0, 1, 2), edge(4, 2, 10), edge(3, 5, 100)])
        self.assertEqual(table[4], [None, None, 10, 13, 0, 113])

    def test_no_likeness_of_unlike_words_or_many_numbers(self):
        terms = banked("x", "y", "f(x)", "g(y)", "f(y, y)").terms
        self.assertEqual(told(terms, [edge(0, 1, 6)])[2], [None, None, 0, None, None])
        self.assertEqual(told(terms, [edge(0, 1, 6), edge(2, 3, GREAT)])[2], [None, None, 0, GREAT, None])

    def test_a_term_that_is_its_own_part_up_to_sameness(self):
        # f(x) is x: one nest of likeness over the whole is shorter than a row of steps.
        terms = banked("f(f(f(x)))").terms
        self.assertEqual(told(terms, [edge(0, 1, 5)])[0], [0, 5, 11, 17])
        self.assertEqual(told(terms, [edge(0, 1, 5)])[1], [5, 0, 6, 12])

    def test_arms_may_go_up_through_their_own_class(self):
        terms = banked("x", "f(x)", "f(f(x))", "y", "f(y)").terms
        edges = [edge(0, 1, 3), edge(3, 2, 4)]
        self.assertEqual(told(terms, edges), slow_lengths(terms, edges))
        self.assertEqual(told(terms, edges)[0][4], 15)

    def test_lengths_that_double(self):
        terms = [("name", "x"), ("name", "y")]
        for k in range(0, 100, 2):
            terms += [("of", "f", (k, k)), ("of", "f", (k + 1, k + 1))]
        table = told(terms, [edge(0, 1, GREAT)])
        self.assertEqual(table[100][101], 2 ** 50 * GREAT + 2 ** 50 - 1)


class Words(unittest.TestCase):
    def test_against_the_words_of_the_point(self):
        for terms, edges in random_cases(150, most=12):
            self.assertEqual(told(terms, edges), slow_lengths(terms, edges), (terms, edges))

    def test_dense_cases_against_the_words_of_the_point(self):
        source = random.Random(4)
        for _ in range(25):
            terms = random_terms(source, 16, words="f")
            edges = random_edges(source, terms, source.randint(3, 9))
            self.assertEqual(told(terms, edges), slow_lengths(terms, edges), (terms, edges))

    def test_many_names_against_the_words_of_the_point(self):
        source = random.Random(12)
        for _ in range(30):
            terms = [("name", word) for word in "abcdefg"]
            terms += [("of", "f", (k,)) for k in source.sample(range(7), 5)]
            edges = [edge(*source.sample(range(12), 2), source.randint(1, 30)) for _ in range(11)]
            self.assertEqual(told(terms, edges), slow_lengths(terms, edges), (terms, edges))

    def test_none_just_between_classes_and_both_ways_the_same(self):
        for terms, edges in random_cases(20, most=40, seed=9):
            leads = closed(terms, edges)
            table = lengths(terms, leads, edges)
            for a in range(len(terms)):
                self.assertEqual(len(table[a]), len(terms))
                for b in range(len(terms)):
                    self.assertEqual(table[a][b] is None, leads[a] != leads[b])
                    self.assertEqual(table[a][b], table[b][a])


class Kept(unittest.TestCase):
    def test_what_is_handed_in_stays_as_it_was(self):
        for terms, edges in random_cases(20):
            leads = closed(terms, edges)
            before = copy.deepcopy((terms, leads, edges))
            lengths(terms, leads, edges)
            self.assertEqual((terms, leads, edges), before)

    def test_what_is_told_is_the_askers_own(self):
        terms = banked("x", "y").terms
        table = told(terms, [edge(0, 1, 3)])
        table[0][1] = 99
        self.assertEqual(table[1][0], 3)
        table[1].clear()
        self.assertEqual(told(terms, [edge(0, 1, 3)]), [[0, 3], [3, 0]])


if __name__ == "__main__":
    unittest.main()
