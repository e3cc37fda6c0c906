"""Points 29 and 30: the matches of a left pattern, and when a rule's asks hold."""

import copy
import random
import unittest

from samples import banked, edge, random_cases, random_terms, random_edges
from samewise.closed import closed, mark
from samewise.kinds import Names, Signs
from samewise.learn import learned
from samewise.match import holding, matches
from samewise.ruletext import read_rule
from samewise.texts import read_pattern

LEFTS = [read_pattern(text) for text in (
    "f(?a)", "g(?a)", "f(?a, ?b)", "f(?a, ?a)", "g(?b, ?a)", "f(f(?a))", "f(g(?a), ?b)", "f(g(?a), ?a)", "f(?a, g(?a))",
    "f(x)", "f(x, ?a)", "f(?a, 0)", "f(-4)", "f(f(f(?a)))", "f(f(?a, ?b), ?c)", "f(f(?a), f(?b))", "f(f(?a), f(?a))",
    "g(f(?a, ?b), f(?b, ?a))", "f(?a, ?b, ?c)", "h(?a, ?b, ?a)", "f(y)", "f(g(x), y)", "f(f(x, ?a), f(?b, ?c))",
)]


def slow_nodes(terms, leads, lead):
    inside = [k for k in range(len(terms)) if leads[k] == lead]
    return [k for k in inside if not any(mark(terms[n], leads) == mark(terms[k], leads) for n in inside if n < k)]


def slow_class_ways(terms, leads, lead, pattern, binds):
    if pattern[0] == "any":
        if binds.get(pattern[1], lead) == lead:
            yield {**binds, pattern[1]: lead}
    elif pattern[0] != "of":
        if any(terms[k] == pattern for k in range(len(terms)) if leads[k] == lead):
            yield binds
    else:
        for k in slow_nodes(terms, leads, lead):
            yield from slow_term_ways(terms, leads, k, pattern, binds, 0)


def slow_term_ways(terms, leads, k, pattern, binds, place):
    if terms[k][0] != "of" or terms[k][1] != pattern[1] or len(terms[k][2]) != len(pattern[2]):
        return
    if place == len(pattern[2]):
        yield binds
        return
    for way in slow_class_ways(terms, leads, leads[terms[k][2][place]], pattern[2][place], binds):
        yield from slow_term_ways(terms, leads, k, pattern, way, place + 1)


def slow_matches(terms, leads, left):
    places = sorted(k for lead in set(leads) for k in slow_nodes(terms, leads, lead))
    return [(k, binds) for k in places for binds in slow_term_ways(terms, leads, k, left, {}, 0)]


class Matches(unittest.TestCase):
    def told(self, texts, edges, left):
        terms = banked(*texts).terms
        return matches(terms, closed(terms, edges), read_pattern(left))

    def test_nothing_held(self):
        self.assertEqual(matches([], [], read_pattern("f(?a)")), [])

    def test_holes_bound_once(self):
        # x y f(x) f(y) g(x, y)
        texts = ["x", "y", "f(x)", "f(y)", "g(x, y)"]
        self.assertEqual(self.told(texts, [], "f(?a)"), [(2, {"a": 0}), (3, {"a": 1})])
        self.assertEqual(self.told(texts, [], "g(?b, ?a)"), [(4, {"b": 0, "a": 1})])
        self.assertEqual(self.told(texts, [], "h(?a)"), [])
        self.assertEqual(self.told(texts, [], "f(?a, ?b)"), [])
        self.assertEqual(self.told(texts, [], "g(?a)"), [])

    def test_the_form_of_a_match(self):
        for match in self.told(["f(x)"], [], "f(?a)"):
            self.assertEqual([type(part) for part in match], [int, dict])
            self.assertIs(type(match), tuple)

    def test_holes_bound_several_times(self):
        texts = ["x", "y", "f(x, x)", "f(x, y)", "f(y, y)"]
        self.assertEqual(self.told(texts, [], "f(?a, ?a)"), [(2, {"a": 0}), (4, {"a": 1})])
        # All three are one node now.
        self.assertEqual(self.told(texts, [edge(0, 1)], "f(?a, ?a)"), [(2, {"a": 0})])

    def test_binds_give_leads(self):
        # x y f(y): y is x.
        self.assertEqual(self.told(["x", "y", "f(y)"], [edge(1, 0)], "f(?a)"), [(2, {"a": 0})])

    def test_numbers_and_names(self):
        texts = ["x", "f(x, 3)", "f(3, x)", "f(y, 4)"]
        # x 3 f(x, 3) f(3, x) y 4 f(y, 4)
        self.assertEqual(self.told(texts, [], "f(x, ?a)"), [(2, {"a": 1})])
        self.assertEqual(self.told(texts, [], "f(x, 3)"), [(2, {})])
        self.assertEqual(self.told(texts, [], "f(?a, 4)"), [(6, {"a": 4})])
        self.assertEqual(self.told(texts, [], "f(z, ?a)"), [])
        self.assertEqual(self.told(texts, [], "f(5, ?a)"), [])
        self.assertEqual(self.told(texts, [edge(0, 4)], "f(x, ?a)"), [(2, {"a": 1}), (6, {"a": 5})])
        self.assertEqual(self.told(texts, [edge(0, 1)], "f(x, 3)"), [(2, {})])

    def test_a_knot_within_fits_each_node_of_the_class(self):
        # a b g(a) g(b) h(c) f(g(a)): g(b) and h(c) are g(a).
        texts = ["a", "b", "g(a)", "g(b)", "h(c)", "f(g(a))"]
        edges = [edge(2, 3), edge(2, 5)]
        self.assertEqual(self.told(texts, edges, "f(g(?a))"), [(6, {"a": 0}), (6, {"a": 1})])
        self.assertEqual(self.told(texts, edges, "f(h(?a))"), [(6, {"a": 4})])
        self.assertEqual(self.told(texts, edges, "f(?a)"), [(6, {"a": 2})])

    def test_a_term_itself_fits_by_its_own_number_alone(self):
        # f(a) and f(b) lie in one class; each is matched by itself.
        self.assertEqual(self.told(["a", "b", "f(a)", "f(b)"], [edge(2, 3)], "f(?a)"), [(2, {"a": 0}), (3, {"a": 1})])

    def test_the_order_of_the_ways(self):
        # a b c d, f(a, b) = f(c, d), and twice that class below f: the first arm's ways come outermost.
        texts = ["a", "b", "c", "d", "f(a, b)", "f(c, d)", "g(f(c, d), f(a, b))"]
        self.assertEqual(self.told(texts, [edge(5, 4)], "g(f(?p, ?q), f(?r, ?s))"), [
            (6, {"p": 0, "q": 1, "r": 0, "s": 1}), (6, {"p": 0, "q": 1, "r": 2, "s": 3}),
            (6, {"p": 2, "q": 3, "r": 0, "s": 1}), (6, {"p": 2, "q": 3, "r": 2, "s": 3}),
        ])
        self.assertEqual(self.told(texts, [edge(5, 4)], "g(f(?p, ?q), f(?p, ?s))"), [
            (6, {"p": 0, "q": 1, "s": 1}), (6, {"p": 2, "q": 3, "s": 3}),
        ])

    def test_a_hole_bound_by_a_later_node(self):
        texts = ["a", "b", "g(a)", "g(b)", "f(g(a), b)"]
        self.assertEqual(self.told(texts, [edge(2, 3)], "f(g(?a), ?a)"), [(4, {"a": 1})])

    def test_unlike_nodes_of_one_word_in_a_class(self):
        # g(a, 1) and g(a, 2) are one class with two nodes.
        told = self.told(["a", "g(a, 1)", "g(a, 2)", "f(g(a, 1))"], [edge(2, 4)], "f(g(?p, ?q))")
        self.assertEqual(told, [(5, {"p": 0, "q": 1}), (5, {"p": 0, "q": 3})])

    def test_a_class_within_itself(self):
        # f(x) is x, so f(f(f(?a))) fits f(x), with x.
        self.assertEqual(self.told(["f(x)"], [edge(0, 1)], "f(f(f(?a)))"), [(1, {"a": 0})])

    def test_a_name_of_the_same_word_is_no_knot(self):
        self.assertEqual(self.told(["f", "g", "f(g)", "f(f(x))"], [edge(0, 1)], "f(?a)"),
                         [(2, {"a": 0}), (4, {"a": 3}), (5, {"a": 4})])
        self.assertEqual(self.told(["f", "f(f)", "f(x, f)"], [], "f(f(?a))"), [])
        self.assertEqual(self.told(["f", "g(f)"], [], "g(f(?a))"), [])

    def test_only_numbers_of_nodes_are_gone_through(self):
        self.assertEqual(self.told(["a", "b", "f(a)", "f(b)"], [edge(0, 1)], "f(?a)"), [(2, {"a": 0})])

    def test_by_the_words_of_the_point(self):
        source = random.Random(15)
        many = 0
        cases = random_cases(60, most=18, seed=21)
        for _ in range(40):
            terms = random_terms(source, 24, words="fg")
            cases.append((terms, random_edges(source, terms, source.randint(2, 7))))
        for terms, edges in cases:
            leads = closed(terms, edges)
            for left in LEFTS:
                told = matches(terms, leads, left)
                self.assertEqual(told, slow_matches(terms, leads, left), (terms, edges, left))
                many += len(told)
        self.assertGreater(many, 1000)


class Asks(unittest.TestCase):
    def setUp(self):
        # x y 3 f(x, y) neg(3) bind(x, f(x, y)) z; z is 3.
        self.terms = banked("x", "y", "3", "f(x, y)", "neg(3)", "bind(x, f(x, y))", "z").terms
        self.leads = closed(self.terms, [edge(2, 6)])
        self.signs, self.names = Signs(self.terms, self.leads), Names(self.terms, self.leads)
        self.known_signs, self.known_names = learned(self.signs)[0], learned(self.names)[0]

    def holds(self, asks, **binds):
        rule = read_rule("t 1: g(?a, ?b) = ?a" + asks)
        return holding(rule, binds, self.signs, self.known_signs, self.names, self.known_names)

    def test_no_asks(self):
        self.assertIs(self.holds("", a=0, b=1), True)

    def test_free(self):
        for k, name, wanted in (
            (3, "x", False), (3, "y", False), (3, "z", True), (3, "q", True), (5, "x", True), (5, "y", False), (0, "x", False),
            (0, "y", True), (2, "z", True), (6, "z", True), (4, "x", True),
        ):
            self.assertIs(self.holds(f" if free ?a {name}", a=k, b=0), wanted, (k, name))

    def test_sign(self):
        for k, signs, wanted in (
            (2, "+", True), (6, "+", True), (2, "-", False), (2, "0+", True), (2, "-0", False), (4, "-", True),
            (4, "0+", False), (0, "-0+", True), (0, "-0", False), (5, "-+", False),
        ):
            self.assertIs(self.holds(f" if sign ?b {signs}", a=0, b=k), wanted, (k, signs))

    def test_number(self):
        self.assertEqual([self.holds(" if number ?a", a=k, b=0) for k in range(7)],
                         [False, False, True, False, False, False, True])

    def test_all_of_them_are_asked(self):
        self.assertIs(self.holds(" if free ?a x, sign ?b +, number ?b", a=1, b=2), True)
        self.assertIs(self.holds(" if free ?a x, sign ?b +, number ?b", a=0, b=2), False)
        self.assertIs(self.holds(" if free ?a x, sign ?b +, number ?b", a=1, b=1), False)
        self.assertIs(self.holds(" if sign ?b -, free ?a x, number ?b", a=1, b=2), False)
        self.assertIs(self.holds(" if free ?b x, number ?a", a=1, b=2), False)

    def test_other_lists_of_facts_are_taken_as_they_are(self):
        rule = read_rule("t 1: g(?a, ?b) = ?a if free ?a x, sign ?b -")
        none, some = [0] * 7, [7] * 7
        binds = {"a": 0, "b": 2}
        self.assertIs(holding(rule, binds, self.signs, none, self.names, none), True)
        self.assertIs(holding(rule, binds, self.signs, some, self.names, none), False)
        self.assertIs(holding(rule, binds, self.signs, none, self.names, some), False)
        self.assertIs(holding(rule, binds, self.signs, [1] * 7, self.names, [6] * 7), True)


class Kept(unittest.TestCase):
    def test_what_is_handed_in_stays_as_it_was(self):
        for terms, edges in random_cases(15):
            leads = closed(terms, edges)
            signs, names = Signs(terms, leads), Names(terms, leads)
            known_signs, known_names = learned(signs)[0], learned(names)[0]
            rule = read_rule("t 1: f(?a) = ?a if free ?a x, sign ?a 0, number ?a")
            binds = {"a": 0}
            before = copy.deepcopy((terms, leads, known_signs, known_names, binds, rule.asks, rule.left))
            matches(terms, leads, rule.left), holding(rule, binds, signs, known_signs, names, known_names)
            self.assertEqual((terms, leads, known_signs, known_names, binds, rule.asks, rule.left), before)
            self.assertEqual((signs.terms, signs.leads, names.terms, names.leads), (terms, leads, terms, leads))

    def test_each_told_dict_is_one_of_its_own(self):
        terms = banked("a", "b", "g(a)", "g(b)", "f(g(a), a)").terms
        leads = closed(terms, [edge(2, 3), edge(0, 4)])
        told = []
        for text in ("f(?p, ?q)", "g(?p)", "f(g(?p), ?q)", "g(a)", "f(g(b), a)"):
            told += matches(terms, leads, read_pattern(text))
        self.assertEqual(len(told), 7)
        self.assertEqual(len({id(binds) for _, binds in told}), 7)
        told[0][1]["p"] = 99
        self.assertEqual(matches(terms, leads, read_pattern("f(?p, ?q)")), [(4, {"p": 2, "q": 0})])


if __name__ == "__main__":
    unittest.main()
