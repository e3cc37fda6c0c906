"""Points 3 and 8: parts, depth, knots and holes."""

import copy
import unittest

from samples import bushy, chain, comb, name, random_patterns
from samewise.trees import depth, holes, knots, parts

# plus(x, times(-3, ?a))
MIXED = ("of", "plus", (name("x"), ("of", "times", (("num", -3), ("any", "a")))))


class Leaves(unittest.TestCase):
    def test_a_number_a_name_and_a_hole_are_one_part_and_one_deep(self):
        for leaf in (("num", 0), ("num", 10 ** 60 - 1), ("num", 1 - 10 ** 60), name("of"), ("any", "of")):
            self.assertEqual((parts(leaf), depth(leaf), knots(leaf)), (1, 1, 0), leaf)

    def test_only_a_hole_has_a_hole(self):
        self.assertEqual(holes(("num", 3)), [])
        self.assertEqual(holes(name("any")), [])
        self.assertEqual(holes(("any", "any")), ["any"])


class Knots(unittest.TestCase):
    def test_all_four_kinds_together(self):
        self.assertEqual((parts(MIXED), depth(MIXED), knots(MIXED), holes(MIXED)), (5, 3, 2, ["a"]))

    def test_one_to_four_arms(self):
        for count in range(1, 5):
            tree = ("of", "f", (name("x"),) * count)
            self.assertEqual((parts(tree), depth(tree), knots(tree)), (count + 1, 2, 1))

    def test_the_deepest_arm_counts_wherever_it_stands(self):
        deep, flat = chain(5), name("y")
        for arms in ((deep, flat, flat), (flat, deep, flat), (flat, flat, deep)):
            self.assertEqual(depth(("of", "g", arms)), 6)
            self.assertEqual(parts(("of", "g", arms)), 8)
            self.assertEqual(knots(("of", "g", arms)), 5)

    def test_an_arm_that_stands_twice_counts_twice(self):
        arm = ("of", "f", (name("x"),))
        self.assertEqual(parts(("of", "g", (arm, arm))), 5)
        self.assertEqual(knots(("of", "g", (arm, arm))), 3)

    def test_words_that_name_a_kind_are_words_like_any_other(self):
        tree = ("of", "any", (name("of"), ("of", "num", (name("any"),))))
        self.assertEqual((parts(tree), depth(tree), knots(tree), holes(tree)), (4, 3, 2, []))


class Holes(unittest.TestCase):
    def test_each_once_in_the_order_of_the_writing(self):
        # f(?c, g(?a, ?c), ?b, ?a)
        pattern = ("of", "f", (
            ("any", "c"), ("of", "g", (("any", "a"), ("any", "c"))), ("any", "b"), ("any", "a"),
        ))
        self.assertEqual(holes(pattern), ["c", "a", "b"])

    def test_a_deep_hole_ahead_stands_before_a_shallow_one_behind(self):
        pattern = ("of", "f", (("of", "g", (("of", "h", (("any", "z"),)),)), ("any", "y")))
        self.assertEqual(holes(pattern), ["z", "y"])

    def test_names_and_knots_of_the_same_word_are_no_holes(self):
        pattern = ("of", "a", (name("a"), ("any", "b"), name("c")))
        self.assertEqual(holes(pattern), ["b"])

    def test_a_told_list_is_the_askers_own(self):
        told = holes(MIXED)
        told.append("more")
        self.assertEqual(holes(MIXED), ["a"])
        self.assertEqual(told, ["a", "more"])


class Bounds(unittest.TestCase):
    def test_sixty_deep(self):
        self.assertEqual((parts(chain(60)), depth(chain(60)), knots(chain(60))), (60, 60, 59))

    def test_five_hundred_parts(self):
        self.assertEqual(parts(bushy(500)), 500)

    def test_both_at_once(self):
        tree = comb(60, 237)
        self.assertEqual((parts(tree), depth(tree), knots(tree), holes(tree)), (237, 60, 59, []))
        wide = ("of", "h", (comb(59, 200), bushy(120), bushy(100), bushy(79)))
        self.assertEqual((parts(wide), depth(wide)), (500, 60))

    def test_five_hundred_parts_with_many_holes(self):
        arms = [("of", "f", (("any", word), ("any", "z"), name("x"))) for word in "abcd"]
        pattern = ("of", "g", tuple(arms))
        for _ in range(57):
            pattern = ("of", "h", (pattern, ("any", "late"), ("any", "a")))
        self.assertEqual((depth(pattern), knots(pattern)), (60, 62))
        self.assertEqual(holes(pattern), ["a", "z", "b", "c", "d", "late"])

    def test_somewhat_beyond(self):
        self.assertEqual(depth(chain(80)), 80)
        self.assertEqual(parts(bushy(700)), 700)


class Kept(unittest.TestCase):
    def test_what_is_handed_in_stays_as_it_was(self):
        for pattern in random_patterns(50) + [MIXED]:
            before = copy.deepcopy(pattern)
            parts(pattern), depth(pattern), knots(pattern), holes(pattern)
            self.assertEqual(pattern, before)


if __name__ == "__main__":
    unittest.main()
