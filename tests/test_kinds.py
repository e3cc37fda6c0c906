"""Points 22 to 24, point 4, and point 1 as far as it speaks of them: what terms are worth by each kind of fact."""

import copy
import itertools
import unittest

from samples import banked, random_cases
from samewise.closed import closed
from samewise.kinds import Kind, Names, Signs

# One whole number, or several, for each sign.
EXAMPLES = {1: range(-3, 0), 2: range(0, 1), 4: range(1, 4)}
WORTHLESS = ("plus(x)", "plus(x, y, x)", "plus(x, y, x, y)", "times(x)", "times(x, y, x)", "neg(x, y)", "neg(x, y, x)",
             "neg(x, y, x, y)", "bind(x, y)", "f(x)", "f(x, y)")


def bits_of(fact):
    return [bit for bit in (1, 2, 4) if fact & bit]


def possible(deed, *facts):
    """The signs that come of whole numbers with these signs."""
    found = 0
    for choice in itertools.product(*[bits_of(fact) for fact in facts]):
        for values in itertools.product(*[EXAMPLES[bit] for bit in choice]):
            value = deed(*values)
            found |= 1 if value < 0 else 2 if value == 0 else 4
    return found


class Kinds(unittest.TestCase):
    def test_a_kind_knows_nothing(self):
        terms = banked("plus(x, 3)", "neg(0)", "bind(x, f(x))").terms
        kind = Kind(terms, closed(terms, []))
        self.assertEqual(kind.top(), 1)
        self.assertEqual([kind.worth(term, [1] * len(terms)) for term in terms], [1] * len(terms))
        self.assertEqual([kind.worth(term, [0] * len(terms)) for term in terms], [1] * len(terms))

    def test_signs_and_names_are_kinds(self):
        self.assertTrue(issubclass(Signs, Kind))
        self.assertTrue(issubclass(Names, Kind))
        self.assertFalse(issubclass(Signs, Names) or issubclass(Names, Signs))

    def test_without_terms(self):
        self.assertEqual((Kind([], []).top(), Signs([], []).top(), Names([], []).top()), (1, 7, 0))
        self.assertEqual(Names([], []).held, [])

    def test_copies_are_kept(self):
        for make in (Kind, Signs, Names):
            terms = banked("x", "y", "bind(x, y)").terms
            leads = [0, 1, 2]
            kind = make(terms, leads)
            self.assertEqual((kind.terms, kind.leads), (terms, leads))
            told = [kind.worth(term, [1, 2, 3]) for term in terms]
            terms.append(("name", "z"))
            leads[1] = 0
            leads.append(0)
            self.assertEqual(kind.terms, [("name", "x"), ("name", "y"), ("of", "bind", (0, 1))])
            self.assertEqual(kind.leads, [0, 1, 2])
            self.assertEqual([kind.worth(term, [1, 2, 3]) for term in kind.terms], told)
            self.assertEqual(kind.top(), {Kind: 1, Signs: 7, Names: 3}[make])


class TheSigns(unittest.TestCase):
    def setUp(self):
        self.signs = Signs([("name", "x"), ("name", "y"), ("of", "f", (0, 1))], [0, 1, 2])

    def worth(self, word, *facts):
        return self.signs.worth(("of", word, tuple(range(len(facts)))), list(facts))

    def test_top(self):
        self.assertEqual(self.signs.top(), 7)

    def test_numbers(self):
        for number, sign in ((0, 2), (1, 4), (-1, 1), (10 ** 60 - 1, 4), (1 - 10 ** 60, 1), (-7, 1), (7, 4)):
            self.assertEqual(self.signs.worth(("num", number), []), sign)

    def test_single_signs(self):
        for one, other, total, product in (
            (1, 1, 1, 4), (1, 2, 1, 2), (1, 4, 7, 1), (2, 1, 1, 2), (2, 2, 2, 2), (2, 4, 4, 2), (4, 1, 7, 1),
            (4, 2, 4, 2), (4, 4, 4, 4),
        ):
            self.assertEqual(self.worth("plus", one, other), total)
            self.assertEqual(self.worth("times", one, other), product)
        self.assertEqual([self.worth("neg", fact) for fact in (1, 2, 4)], [4, 2, 1])

    def test_every_pair_of_facts(self):
        for one, other in itertools.product(range(8), repeat=2):
            self.assertEqual(self.worth("plus", one, other), possible(lambda a, b: a + b, one, other), (one, other))
            self.assertEqual(self.worth("times", one, other), possible(lambda a, b: a * b, one, other), (one, other))

    def test_every_fact_for_neg(self):
        for fact in range(8):
            self.assertEqual(self.worth("neg", fact), possible(lambda a: -a, fact))

    def test_a_fact_of_nought_makes_nought(self):
        for fact in range(8):
            self.assertEqual(self.worth("plus", 0, fact), 0)
            self.assertEqual(self.worth("plus", fact, 0), 0)
            self.assertEqual(self.worth("times", 0, fact), 0)
            self.assertEqual(self.worth("times", fact, 0), 0)
        self.assertEqual(self.worth("neg", 0), 0)

    def test_one_number_twice(self):
        # Each place has its own bit, whichever number stands there.
        self.assertEqual(self.signs.worth(("of", "plus", (0, 0)), [5]), 7)
        self.assertEqual(self.signs.worth(("of", "times", (0, 0)), [5]), 5)

    def test_anything_else_is_worth_seven(self):
        for text in WORTHLESS + ("x", "y", "plus", "times", "neg"):
            term = banked("x", "y", text).terms[-1]
            for fact in (0, 2, 4, 7):
                self.assertEqual(self.signs.worth(term, [fact] * 3), 7, text)

    def test_the_facts_are_those_of_the_numbers(self):
        term = ("of", "plus", (4, 2))
        self.assertEqual(self.signs.worth(term, [1, 1, 4, 1, 2]), 4)
        self.assertEqual(self.signs.worth(("of", "neg", (2,)), [1, 1, 4, 1, 2]), 1)

    def test_within(self):
        for fact, mask in itertools.product(range(8), repeat=2):
            wanted = all(mask & bit for bit in bits_of(fact))
            self.assertIs(self.signs.within([7, fact, 7], 1, mask), wanted, (fact, mask))
        self.assertIs(self.signs.within([0], 0, 0), True)
        self.assertIs(self.signs.within([7], 0, 7), True)
        self.assertIs(self.signs.within([1], 0, 0), False)


class TheNames(unittest.TestCase):
    def test_held_in_the_order_of_the_numbers(self):
        terms = banked("f(b, 3)", "a", "g(c)", "f(a, b)").terms
        names = Names(terms, closed(terms, []))
        self.assertEqual(names.held, ["b", "a", "c"])
        self.assertEqual(names.top(), 7)

    def test_the_words_of_knots_are_no_names(self):
        terms = banked("f(x)", "x(f)").terms
        self.assertEqual(Names(terms, closed(terms, [])).held, ["x", "f"])

    def test_no_names_at_all(self):
        terms = banked("f(3)", "bind(3, f(3))").terms
        names = Names(terms, closed(terms, []))
        self.assertEqual((names.held, names.top()), ([], 0))
        self.assertEqual([names.worth(term, [0] * 3) for term in terms], [0, 0, 0])

    def test_many_names(self):
        words = [a + b for a in "abcdefghijklmnopqrst" for b in "abcdefghijklmnopqrst"]
        terms = [("name", word) for word in words]
        names = Names(terms, list(range(400)))
        self.assertEqual(names.top(), 2 ** 400 - 1)
        self.assertEqual(names.worth(terms[399], [0] * 400), 2 ** 399)
        self.assertEqual(names.held, words)

    def test_names_and_numbers(self):
        terms = banked("x", "3", "y", "-4", "z").terms
        names = Names(terms, closed(terms, []))
        self.assertEqual([names.worth(term, [7] * 5) for term in terms], [1, 0, 2, 0, 4])

    def test_names_that_are_words_of_knots(self):
        terms = banked("bind", "plus", "neg").terms
        names = Names(terms, [0, 1, 2])
        self.assertEqual([names.worth(term, [7] * 3) for term in terms], [1, 2, 4])

    def test_two_names_of_one_class_are_worth_their_own_bits(self):
        terms = banked("x", "y").terms
        names = Names(terms, [0, 0])
        self.assertEqual([names.worth(term, [3, 3]) for term in terms], [1, 2])

    def test_other_knots_are_worth_all_together(self):
        terms = banked("x", "y", "z").terms
        names = Names(terms, [0, 1, 2])
        for word in ("f", "plus", "times", "neg", "bind"):
            self.assertEqual(names.worth(("of", word, (0,)), [1, 2, 4]), 1)
            self.assertEqual(names.worth(("of", word, (0, 1, 2)), [1, 2, 4]), 7)
            self.assertEqual(names.worth(("of", word, (0, 2, 0, 0)), [1, 2, 4]), 5)
            if word != "bind":
                self.assertEqual(names.worth(("of", word, (0, 2)), [1, 2, 4]), 5)

    def test_bind_takes_the_names_of_its_first_class_out(self):
        # x y z f(x, y)
        terms = banked("x", "y", "z", "f(x, y)").terms
        names = Names(terms, [0, 1, 2, 3])
        known = [1, 2, 4, 3]
        self.assertEqual(names.worth(("of", "bind", (0, 3)), known), 2)
        self.assertEqual(names.worth(("of", "bind", (1, 3)), known), 1)
        self.assertEqual(names.worth(("of", "bind", (2, 3)), known), 3)
        self.assertEqual(names.worth(("of", "bind", (0, 0)), known), 0)
        # f(x, y) is no name, whatever is known of it.
        self.assertEqual(names.worth(("of", "bind", (3, 3)), known), 3)
        self.assertEqual(names.worth(("of", "bind", (3, 0)), known), 1)

    def test_bind_goes_by_what_stands_in_the_class_and_not_by_facts(self):
        terms = banked("x", "y", "z", "f(x, y)").terms
        names = Names(terms, [0, 0, 2, 0])
        for first in (0, 1, 3):
            self.assertEqual(names.worth(("of", "bind", (first, 2)), [0, 0, 7, 0]), 4)
        self.assertEqual(names.worth(("of", "bind", (2, 3)), [7, 7, 0, 7]), 3)
        self.assertEqual(names.worth(("of", "bind", (2, 3)), [0, 0, 7, 0]), 0)

    def test_free(self):
        terms = banked("x", "y", "f(x)").terms
        names = Names(terms, [0, 1, 2])
        known = [1, 2, 1]
        self.assertIs(names.free(known, 2, "x"), False)
        self.assertIs(names.free(known, 2, "y"), True)
        self.assertIs(names.free(known, 1, "x"), True)
        self.assertIs(names.free(known, 1, "y"), False)
        self.assertIs(names.free([3, 3, 3], 2, "y"), False)
        self.assertIs(names.free([0, 0, 0], 2, "x"), True)

    def test_a_name_that_is_not_held_is_free(self):
        terms = banked("x", "f(x)").terms
        names = Names(terms, [0, 1])
        for word in ("z", "f", "abcdefgh"):
            self.assertIs(names.free([1, 1], 1, word), True)


class Kept(unittest.TestCase):
    def test_what_is_handed_in_stays_as_it_was(self):
        for terms, edges in random_cases(20):
            leads = closed(terms, edges)
            for make in (Kind, Signs, Names):
                known = [make(terms, leads).top()] * len(terms)
                before = copy.deepcopy((terms, leads, known))
                kind = make(terms, leads)
                [kind.worth(term, known) for term in terms]
                if make is Signs:
                    kind.within(known, 0, 3)
                if make is Names:
                    kind.free(known, 0, "x")
                self.assertEqual((terms, leads, known), before)
                self.assertEqual((kind.terms, kind.leads), (terms, leads))


if __name__ == "__main__":
    unittest.main()
