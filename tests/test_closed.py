"""Points 13 to 17, and points 1 and 3 as far as they speak of them: likeness, sameness, classes."""

import copy
import itertools
import random
import unittest

from samples import banked, edge, name, random_cases, random_edges, random_pattern, random_terms, slow_leads
from samewise.bank import Bank, tree_of
from samewise.closed import class_of, closed, mark, marks, members, nodes
from samewise.texts import read, read_pattern
from samewise.trees import holes

# x y f(x) f(y) g(f(x), x) g(f(y), x)
SMALL = banked("x", "y", "f(x)", "f(y)", "g(f(x), x)", "g(f(y), x)").terms


class Marks(unittest.TestCase):
    def test_numbers_and_names_are_their_own_marks(self):
        for term in (("num", 0), ("num", -5), ("name", "x")):
            self.assertEqual(mark(term, [0, 0, 0]), term)

    def test_a_knot_has_the_leads_of_its_numbers(self):
        self.assertEqual(mark(("of", "f", (2, 1, 2, 0)), [0, 0, 2]), ("of", "f", (2, 0, 2, 0)))
        self.assertIs(type(mark(("of", "f", (1,)), [0, 0])[2]), tuple)

    def test_the_table_of_marks(self):
        leads = closed(SMALL, [edge(0, 1)])
        self.assertEqual(leads, [0, 0, 2, 2, 4, 4])
        self.assertEqual(marks(SMALL, leads), {
            ("name", "x"): 0, ("name", "y"): 0, ("of", "f", (0,)): 2, ("of", "g", (2, 0)): 4,
        })

    def test_the_table_without_edges(self):
        leads = closed(SMALL, [])
        self.assertEqual(marks(SMALL, leads), {term: k for k, term in enumerate(SMALL)})

    def test_nodes_are_the_least_of_each_mark(self):
        leads = closed(SMALL, [edge(0, 1)])
        self.assertEqual(nodes(SMALL, leads), {0: [0, 1], 2: [2], 4: [4]})
        leads = closed(SMALL, [edge(5, 2)])
        self.assertEqual(leads, [0, 1, 2, 3, 4, 2])
        self.assertEqual(nodes(SMALL, leads), {0: [0], 1: [1], 2: [2, 5], 3: [3], 4: [4]})
        leads = closed(SMALL, [edge(5, 2), edge(1, 0)])
        self.assertEqual(nodes(SMALL, leads), {0: [0, 1], 2: [2, 4]})

    def test_nodes_and_marks_by_their_words(self):
        for terms, edges in random_cases(60):
            leads = closed(terms, edges)
            told = [mark(term, leads) for term in terms]
            self.assertEqual(marks(terms, leads), {told[k]: leads[k] for k in range(len(terms))})
            wanted = {}
            for lead in set(leads):
                inside = [k for k in range(len(terms)) if leads[k] == lead]
                wanted[lead] = sorted({min(k for k in inside if told[k] == one) for one in {told[k] for k in inside}})
            self.assertEqual(nodes(terms, leads), wanted)

    def test_members_rise(self):
        leads = [0, 1, 0, 1, 0, 5]
        self.assertEqual([members(leads, k) for k in range(6)],
                         [[0, 2, 4], [1, 3], [0, 2, 4], [1, 3], [0, 2, 4], [5]])


class Sameness(unittest.TestCase):
    def test_no_terms_and_no_edges(self):
        self.assertEqual(closed([], []), [])
        self.assertEqual((marks([], []), nodes([], [])), ({}, {}))
        self.assertEqual(closed(SMALL, []), [0, 1, 2, 3, 4, 5])

    def test_an_edge_makes_a_class_and_the_least_number_leads(self):
        terms = banked("a", "b", "c", "d").terms
        self.assertEqual(closed(terms, [edge(3, 1)]), [0, 1, 2, 1])
        self.assertEqual(closed(terms, [edge(3, 1), edge(2, 3)]), [0, 1, 1, 1])
        self.assertEqual(closed(terms, [edge(3, 2), edge(1, 0), edge(3, 0)]), [0, 0, 0, 0])

    def test_like_terms_follow_over_several_steps(self):
        terms = banked("x", "y", "f(x)", "f(y)", "f(f(x))", "f(f(y))", "h(f(f(x)), y)", "h(f(f(y)), x)").terms
        self.assertEqual(closed(terms, [edge(0, 1)]), [0, 0, 2, 2, 4, 4, 6, 6])

    def test_nothing_goes_down_from_knots_to_arms(self):
        terms = banked("x", "y", "f(x)", "f(y)").terms
        self.assertEqual(closed(terms, [edge(2, 3)]), [0, 1, 2, 2])

    def test_three_and_five_turns_come_back_to_one(self):
        # f to the third and f to the fifth of x are x, so f(x) is x.
        terms = banked("f(f(f(f(f(x)))))").terms
        self.assertEqual(closed(terms, [edge(3, 0), edge(5, 0)]), [0] * 6)
        self.assertEqual(closed(terms, [edge(2, 0), edge(4, 0)]), [0, 1, 0, 1, 0, 1])

    def test_likeness_that_comes_from_a_class_further_up(self):
        terms = banked("x", "y", "g(x)", "g(y)", "f(g(x))", "f(g(y))").terms
        self.assertEqual(closed(terms, [edge(4, 0), edge(5, 1), edge(0, 1)]), [0, 0, 2, 2, 0, 0])

    def test_a_term_that_is_its_own_part_up_to_sameness(self):
        terms = [("name", "x")] + [("of", "f", (k,)) for k in range(399)]
        self.assertEqual(closed(terms, [edge(0, 1)]), [0] * 400)
        self.assertEqual(closed(terms, [edge(7, 0)]), [k % 7 for k in range(400)])

    def test_words_and_many_numbers_must_be_the_same(self):
        terms = banked("x", "y", "f(x)", "g(y)", "f(x, x)", "f(y, y, y)", "f(y, y)", "f(y)").terms
        self.assertEqual(closed(terms, [edge(0, 1)]), [0, 0, 2, 3, 4, 5, 4, 2])

    def test_the_place_of_a_number_matters(self):
        terms = banked("x", "y", "f(x, y)", "f(y, x)").terms
        self.assertEqual(closed(terms, []), [0, 1, 2, 3])
        self.assertEqual(closed(terms, [edge(1, 0)]), [0, 0, 2, 2])

    def test_numbers_and_names_are_never_like(self):
        terms = banked("x", "y", "1", "2", "f(1)", "f(x)").terms
        self.assertEqual(closed(terms, [edge(4, 5)]), [0, 1, 2, 3, 4, 4])

    def test_an_edge_from_a_term_to_itself(self):
        self.assertEqual(closed(SMALL, [edge(3, 3), edge(0, 0)]), [0, 1, 2, 3, 4, 5])

    def test_weights_and_whys_do_not_matter(self):
        for weight in (1, 10 ** 12):
            self.assertEqual(closed(SMALL, [(1, 0, weight, ("rule", "t", (("a", 0),)))]), [0, 0, 2, 2, 4, 4])

    def test_the_same_pair_by_several_edges(self):
        self.assertEqual(closed(SMALL, [edge(0, 1, 3), edge(1, 0), edge(0, 1, 10 ** 12)]), [0, 0, 2, 2, 4, 4])

    def test_against_the_words_of_the_point(self):
        for terms, edges in random_cases(150):
            self.assertEqual(closed(terms, edges), slow_leads(terms, edges), (terms, edges))

    def test_whatever_the_order_of_the_edges_and_of_their_ends(self):
        source = random.Random(5)
        for _ in range(30):
            terms = random_terms(source, 60)
            edges = random_edges(source, terms, 8)
            leads = closed(terms, edges)
            for _ in range(6):
                source.shuffle(edges)
                turned = [(e[1], e[0], e[2], e[3]) if source.random() < 0.5 else e for e in edges]
                self.assertEqual(closed(terms, turned), leads)

    def test_every_order_of_three_edges(self):
        terms = banked("x", "y", "f(x)", "f(y)", "f(f(x))", "g(y, f(x))", "g(x, f(y))").terms
        edges = [edge(4, 0), edge(5, 1), edge(6, 2)]
        told = {tuple(closed(terms, list(row))) for row in itertools.permutations(edges)}
        self.assertEqual(told, {tuple(slow_leads(terms, edges))})

    def test_four_hundred_terms(self):
        source = random.Random(8)
        terms = random_terms(source, 400)
        edges = random_edges(source, terms, 12)
        leads = closed(terms, edges)
        told = {}
        for k, term in enumerate(terms):
            self.assertEqual(leads[leads[k]], leads[k])
            self.assertLessEqual(leads[k], k)
            self.assertEqual(told.setdefault(mark(term, leads), leads[k]), leads[k])
        for a, b, _, _ in edges:
            self.assertEqual(leads[a], leads[b])


class Looking(unittest.TestCase):
    def setUp(self):
        self.terms = SMALL + [("num", 3)]
        self.leads = closed(self.terms, [edge(0, 1), edge(6, 2)])
        self.table = marks(self.terms, self.leads)

    def look(self, text, binds=None):
        return class_of(self.table, self.leads, read_pattern(text), binds)

    def test_what_is_held(self):
        self.assertEqual(self.leads, [0, 0, 2, 2, 4, 4, 2])
        for text, lead in (("x", 0), ("y", 0), ("3", 2), ("f(x)", 2), ("f(y)", 2), ("g(f(y), x)", 4)):
            self.assertEqual(self.look(text), lead)

    def test_what_is_held_up_to_sameness_alone(self):
        for text in ("g(f(y), y)", "g(3, x)", "g(3, y)", "g(f(x), y)"):
            self.assertEqual(self.look(text), 4)

    def test_what_is_not_held(self):
        for text in ("z", "4", "f(3)", "f(z)", "f(f(x))", "f(x, y)", "g(x, 3)", "h(x)", "g(z, x)", "g(f(3), x)", "f"):
            self.assertIsNone(self.look(text), text)

    def test_holes_are_classes_of_whatever_member_is_bound(self):
        self.assertEqual(self.look("?a", {"a": 3}), 2)
        self.assertEqual(self.look("?a", {"a": 0}), 0)
        for b, a in itertools.product((2, 3, 6), (0, 1)):
            self.assertEqual(self.look("g(?b, ?a)", {"a": a, "b": b}), 4)
            self.assertEqual(self.look("g(f(?a), ?a)", {"a": a, "b": b}), 4)
            self.assertIsNone(self.look("g(?a, ?b)", {"a": a, "b": b}))
            self.assertIsNone(self.look("f(?b)", {"b": b}))

    def test_binds_left_out_none_and_empty(self):
        self.assertEqual(class_of(self.table, self.leads, name("x")), 0)
        self.assertEqual(class_of(self.table, self.leads, name("x"), {}), 0)
        self.assertEqual(class_of(table=self.table, leads=self.leads, pattern=name("x"), binds=None), 0)

    def test_nothing_held(self):
        self.assertIsNone(class_of({}, [], read("f(x)")))

    def test_against_putting_it_in(self):
        # Held up to sameness: with the pattern put in, its term lies in a class of terms that were there.
        source = random.Random(11)
        found = 0
        for terms, edges in random_cases(200, most=20):
            leads = closed(terms, edges)
            pattern = random_pattern(source, 3)
            if pattern[0] == "of":
                pattern = ("of", source.choice("fg"), (("any", "a"), ("of", "f", (("any", "b"),)))[:source.randint(1, 2)])
            binds = {word: source.randrange(len(terms)) for word in holes(pattern)}
            bank = Bank(400)
            for k in range(len(terms)):
                self.assertEqual(bank.put(tree_of(terms, k)), k)
            number = bank.put(pattern, binds)
            lead = closed(bank.terms, edges)[number]
            wanted = lead if lead < len(terms) else None
            found += wanted is not None
            self.assertEqual(class_of(marks(terms, leads), leads, pattern, binds), wanted)
        self.assertGreater(found, 20)


class Kept(unittest.TestCase):
    def test_what_is_handed_in_stays_as_it_was(self):
        for terms, edges in random_cases(30):
            leads = closed(terms, edges)
            table = marks(terms, leads)
            binds = {"a": 0}
            before = copy.deepcopy((terms, edges, leads, table, binds))
            closed(terms, edges), marks(terms, leads), nodes(terms, leads), members(leads, 0)
            mark(terms[-1], leads), class_of(table, leads, read_pattern("f(?a)"), binds)
            self.assertEqual((terms, edges, leads, table, binds), before)

    def test_what_is_told_is_the_askers_own(self):
        edges = [edge(0, 1)]
        leads = closed(SMALL, edges)
        wanted = list(leads)
        table, heads, inside = marks(SMALL, leads), nodes(SMALL, leads), members(leads, 0)
        heads[0].append(99), table.clear(), inside.clear(), heads.pop(2)
        self.assertEqual(nodes(SMALL, leads), {0: [0, 1], 2: [2], 4: [4]})
        self.assertEqual(len(marks(SMALL, leads)), 4)
        self.assertEqual(members(leads, 0), [0, 1])
        leads[0] = 77
        self.assertEqual(closed(SMALL, edges), wanted)


if __name__ == "__main__":
    unittest.main()
