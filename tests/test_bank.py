"""Points 9 to 12, and points 1, 3 and 5 as far as they speak of them: terms, their bank, and the trees they stand for."""

import copy
import random
import unittest

from samples import Refusing, banked, bushy, chain, comb, name, random_pattern, random_patterns
from samewise import errors
from samewise.bank import Bank, size_of, tree_of
from samewise.texts import read, read_pattern
from samewise.trees import depth, holes, parts

DOUBLING = [("name", "x")] + [("of", "f", (k, k)) for k in range(399)]


def subtrees(tree):
    """All trees that stand in a tree, itself too, arms first."""
    if tree[0] == "of":
        for arm in tree[2]:
            yield from subtrees(arm)
    yield tree


class Putting(unittest.TestCase):
    def test_arms_first_from_left_to_right(self):
        bank = Bank(400)
        self.assertEqual(bank.put(read("plus(times(b, 2), g(a, b))")), 5)
        self.assertEqual(bank.terms, [
            ("name", "b"), ("num", 2), ("of", "times", (0, 1)), ("name", "a"), ("of", "g", (3, 0)),
            ("of", "plus", (2, 4)),
        ])
        self.assertEqual(bank.room, 400)

    def test_numbers_and_names_by_themselves(self):
        bank = Bank(400)
        self.assertEqual([bank.put(read(text)) for text in ("x", "-7", "0", "x", "7", "-7")], [0, 1, 2, 0, 3, 1])
        self.assertEqual(bank.terms, [("name", "x"), ("num", -7), ("num", 0), ("num", 7)])

    def test_nothing_is_held_twice(self):
        bank = banked("f(g(x), g(x))", "f(g(x), g(x))", "g(x)", "x")
        self.assertEqual(bank.terms, [("name", "x"), ("of", "g", (0,)), ("of", "f", (1, 1))])
        self.assertEqual(bank.put(read("f(g(x), g(x))")), 2)
        self.assertEqual(bank.put(read("g(x)")), 1)

    def test_words_and_many_numbers_tell_terms_apart(self):
        bank = banked("f(x)", "g(x)", "f(x, x)", "f(x, x, x)", "f(x, x, x, x)", "f", "g(f)")
        self.assertEqual(bank.terms, [
            ("name", "x"), ("of", "f", (0,)), ("of", "g", (0,)), ("of", "f", (0, 0)), ("of", "f", (0, 0, 0)),
            ("of", "f", (0, 0, 0, 0)), ("name", "f"), ("of", "g", (6,)),
        ])

    def test_a_hole_is_the_term_that_binds_has_for_it(self):
        bank = banked("x", "g(x)")
        self.assertEqual(bank.put(read_pattern("f(?a, h(?b), ?a)"), {"a": 1, "b": 0}), 3)
        self.assertEqual(bank.terms[2:], [("of", "h", (0,)), ("of", "f", (1, 2, 1))])

    def test_a_hole_by_itself_puts_nothing(self):
        bank = banked("x", "g(x)")
        self.assertEqual(bank.put(("any", "a"), {"a": 1}), 1)
        self.assertEqual(len(bank.terms), 2)

    def test_two_holes_may_be_one_term_and_more_may_be_bound_than_stand_there(self):
        bank = banked("x", "g(x)")
        self.assertEqual(bank.put(read_pattern("f(?a, ?b)"), {"a": 1, "b": 1, "c": 0}), 2)
        self.assertEqual(bank.terms[2], ("of", "f", (1, 1)))

    def test_what_a_pattern_comes_to_is_not_held_twice(self):
        bank = banked("f(x, g(x))")
        self.assertEqual(bank.put(read_pattern("f(?a, g(?a))"), {"a": 0}), 2)
        self.assertEqual(len(bank.terms), 3)

    def test_binds_left_out_none_and_empty(self):
        bank = Bank(9)
        self.assertEqual(bank.put(read("f(x)")), bank.put(read("f(x)"), None))
        self.assertEqual(bank.put(read("f(x)"), {}), 1)
        self.assertEqual(bank.put(pattern=read("f(x)"), binds={"a": 0}), 1)

    def test_every_term_stands_for_its_tree(self):
        for tree in random_patterns(40, with_holes=False):
            bank = Bank(400)
            number = bank.put(tree)
            self.assertEqual(tree_of(bank.terms, number), tree)
            self.assertEqual(len(set(bank.terms)), len(bank.terms))
            expected = list(dict.fromkeys(subtrees(tree)))
            self.assertEqual([tree_of(bank.terms, k) for k in range(len(bank.terms))], expected)
            for k, term in enumerate(bank.terms):
                if term[0] == "of":
                    self.assertIs(type(term[2]), tuple)
                    self.assertTrue(all(n < k for n in term[2]))

    def test_two_banks_have_nothing_in_common(self):
        one, other = banked("x"), banked("y")
        one.put(read("f(x)"))
        self.assertEqual(other.terms, [("name", "y")])
        self.assertIsNone(other.find(name("x")))


class Room(Refusing, unittest.TestCase):
    def as_it_was(self, bank, before):
        self.assertEqual(bank.terms, before)
        self.assertEqual(bank.room, 4)

    def test_just_enough_and_one_too_few(self):
        tree = read("f(g(x), y)")
        self.assertEqual(Bank(4).put(tree), 3)
        for room in (1, 2, 3):
            bank = Bank(room)
            self.refused(errors.Full, bank.put, tree)
            self.assertEqual(bank.terms, [])

    def test_arms_that_would_have_fitted_go_again(self):
        bank = banked("x", "y", room=4)
        before = list(bank.terms)
        # g(x) and h(y) fit, the whole doesn't.
        self.refused(errors.Full, bank.put, read("f(g(x), h(y))"))
        self.as_it_was(bank, before)
        self.assertIsNone(bank.find(read("g(x)")))
        self.assertIsNone(bank.find(read("h(y)")))

    def test_with_binds_too(self):
        bank = banked("x", "y", "z", room=4)
        before = list(bank.terms)
        self.refused(errors.Full, bank.put, read_pattern("f(g(?a), ?b)"), {"a": 0, "b": 1})
        self.as_it_was(bank, before)
        self.assertEqual(bank.put(read_pattern("f(?b, ?a)"), {"a": 0, "b": 1}), 3)

    def test_room_is_left_after_a_refusal(self):
        bank = banked("x", "y", room=4)
        self.refused(errors.Full, bank.put, read("f(g(x), h(y))"))
        self.assertEqual(bank.put(read("h(y)")), 2)
        self.assertEqual(bank.put(read("k(h(y))")), 3)
        self.assertEqual(bank.terms, [("name", "x"), ("name", "y"), ("of", "h", (1,)), ("of", "k", (2,))])

    def test_what_is_held_needs_no_room(self):
        bank = banked("f(g(x), y)", room=4)
        before = list(bank.terms)
        self.assertEqual(bank.put(read("f(g(x), y)")), 3)
        self.assertEqual(bank.put(read_pattern("f(?a, ?b)"), {"a": 1, "b": 2}), 3)
        self.refused(errors.Full, bank.put, read("z"))
        self.refused(errors.Full, bank.put, ("num", 0))
        self.refused(errors.Full, bank.put, read("g(y)"))
        self.as_it_was(bank, before)

    def test_room_of_one(self):
        bank = Bank(1)
        self.assertEqual(bank.put(name("x")), 0)
        self.refused(errors.Full, bank.put, name("y"))
        self.refused(errors.Full, bank.put, read("f(x)"))
        self.assertEqual(bank.terms, [("name", "x")])

    def test_room_of_four_hundred(self):
        bank = Bank(400)
        for number in range(399):
            bank.put(("num", number))
        before = list(bank.terms)
        self.refused(errors.Full, bank.put, read("f(x)"))
        self.assertEqual(bank.terms, before)
        self.assertEqual(bank.put(name("x")), 399)
        self.refused(errors.Full, bank.put, name("y"))
        self.assertEqual(len(bank.terms), 400)

    def test_every_room_below_what_is_needed(self):
        tree = read("plus(f(a, g(b)), times(h(a), f(b, -3)))")
        whole = banked("plus(f(a, g(b)), times(h(a), f(b, -3)))").terms
        for held in range(len(whole)):
            for room in range(max(1, held), len(whole)):
                bank = Bank(room)
                for k in range(held):
                    bank.put(tree_of(whole, k))
                self.refused(errors.Full, bank.put, tree)
                self.assertEqual(bank.terms, whole[:held])


class Finding(unittest.TestCase):
    def test_all_of_it_is_held(self):
        bank = banked("f(g(x), 3)", "y")
        for number, text in enumerate(("x", "g(x)", "3", "f(g(x), 3)", "y")):
            self.assertEqual(bank.find(read(text)), number)

    def test_something_of_it_is_lacking(self):
        bank = banked("f(g(x), 3)", "y")
        before = list(bank.terms)
        for text in ("z", "f", "-3", "g(y)", "g(z)", "f(3, g(x))", "f(g(x))", "f(g(x), 3, 3)", "h(g(x), 3)", "g(3)",
                     "f(g(x), 4)", "k(f(g(x), 3))", "f(z, 3)", "g(h(z))"):
            self.assertIsNone(bank.find(read(text)), text)
        self.assertEqual(bank.terms, before)

    def test_in_an_empty_bank(self):
        self.assertIsNone(Bank(3).find(read("f(x)")))

    def test_finding_in_a_full_bank_refuses_nothing(self):
        bank = banked("x", room=1)
        self.assertIsNone(bank.find(read("f(x)")))
        self.assertEqual(bank.find(name("x")), 0)


class Cutting(unittest.TestCase):
    def test_from_the_end_until_so_many_are_left(self):
        for many in range(6):
            bank = banked("f(g(x), 3)", "y")
            before = list(bank.terms)
            self.assertIsNone(bank.cut(many))
            self.assertEqual(bank.terms, before[:many])

    def test_what_was_cut_is_not_found_and_can_be_put_anew(self):
        bank = banked("f(g(x), 3)", "y", room=5)
        bank.cut(2)
        self.assertIsNone(bank.find(read("f(g(x), 3)")))
        self.assertIsNone(bank.find(read("y")))
        self.assertEqual(bank.find(read("g(x)")), 1)
        self.assertEqual([bank.put(read(text)) for text in ("y", "3", "h(y)")], [2, 3, 4])
        self.assertEqual(bank.terms, [("name", "x"), ("of", "g", (0,)), ("name", "y"), ("num", 3), ("of", "h", (2,))])

    def test_to_nought_and_to_all(self):
        bank = banked("f(g(x), 3)")
        bank.cut(4)
        self.assertEqual(len(bank.terms), 4)
        bank.cut(0)
        self.assertEqual(bank.terms, [])
        bank.cut(0)
        self.assertEqual(bank.put(name("z")), 0)


class Sizes(Refusing, unittest.TestCase):
    def test_size_and_tree_of_every_term(self):
        for tree in random_patterns(60, with_holes=False):
            bank = Bank(400)
            number = bank.put(tree)
            self.assertEqual(size_of(bank.terms, number), (parts(tree), depth(tree)))
            self.assertIs(type(size_of(bank.terms, number)), tuple)
            for k in range(len(bank.terms)):
                told = tree_of(bank.terms, k)
                self.assertEqual(bank.find(told), k)
                self.assertEqual(size_of(bank.terms, k), (parts(told), depth(told)))

    def test_a_leaf(self):
        terms = banked("x", "-3").terms
        self.assertEqual([size_of(terms, k) for k in (0, 1)], [(1, 1), (1, 1)])
        self.assertEqual([tree_of(terms, k) for k in (0, 1)], [("name", "x"), ("num", -3)])

    def test_sizes_that_double_are_exact(self):
        for k in (0, 1, 7, 8, 100, 399):
            self.assertEqual(size_of(DOUBLING, k), (2 ** (k + 1) - 1, k + 1))

    def test_sizes_that_grow_four_times(self):
        terms = [("num", 1)] + [("of", "f", (k,) * 4) for k in range(399)]
        self.assertEqual(size_of(terms, 399), ((4 ** 400 - 1) // 3, 400))

    def test_doubling_ends_at_too_big(self):
        self.assertEqual(size_of(DOUBLING, 7), (255, 8))
        self.assertEqual(parts(tree_of(DOUBLING, 7)), 255)
        for k in (8, 9, 60, 399):
            self.refused(errors.TooBig, tree_of, DOUBLING, k)

    def test_five_hundred_parts_and_one_more(self):
        for many, tree in ((500, bushy(500)), (501, bushy(501)), (499, bushy(499))):
            bank = Bank(400)
            number = bank.put(tree)
            self.assertEqual(size_of(bank.terms, number)[0], many)
            if many <= 500:
                self.assertEqual(tree_of(bank.terms, number), tree)
            else:
                self.refused(errors.TooBig, tree_of, bank.terms, number)

    def test_sixty_deep_and_one_more(self):
        terms = [("name", "x")] + [("of", "f", (k,)) for k in range(399)]
        self.assertEqual(tree_of(terms, 59), chain(60))
        self.assertEqual(size_of(terms, 59), (60, 60))
        self.assertEqual(size_of(terms, 60), (61, 61))
        self.assertEqual(size_of(terms, 399), (400, 400))
        for k in (60, 61, 399):
            self.refused(errors.TooBig, tree_of, terms, k)

    def test_five_hundred_parts_sixty_deep(self):
        tree = ("of", "h", (comb(59, 200), bushy(120), bushy(100), bushy(79)))
        bank = Bank(400)
        number = bank.put(tree)
        self.assertEqual(size_of(bank.terms, number), (500, 60))
        self.assertEqual(tree_of(bank.terms, number), tree)

    def test_terms_above_do_not_matter(self):
        terms = banked("f(x)").terms + [("of", "g", (1, 1, 1, 1))]
        self.assertEqual(size_of(terms, 1), (2, 2))
        self.assertEqual(tree_of(terms, 1), read("f(x)"))


class Kept(Refusing, unittest.TestCase):
    def test_binds_and_patterns_stay_as_they_were(self):
        source = random.Random(3)
        for _ in range(40):
            pattern = random_pattern(source, 4)
            bank = banked("x", "g(x)", "7", room=source.choice([8, 400]))
            binds = {word: source.randrange(3) for word in holes(pattern)}
            before = copy.deepcopy((pattern, binds))
            try:
                bank.put(pattern, binds)
            except errors.Full:
                self.assertEqual(len(bank.terms), 3)
            self.assertEqual((pattern, binds), before)

    def test_terms_stay_as_they_were(self):
        terms = list(DOUBLING)
        size_of(terms, 399), tree_of(terms, 5), self.refused(errors.TooBig, tree_of, terms, 399)
        self.assertEqual(terms, DOUBLING)


if __name__ == "__main__":
    unittest.main()
