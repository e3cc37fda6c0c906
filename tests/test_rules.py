"""Point 27, and points 1, 3 and 5 as far as they speak of it: what a rule is."""

import copy
import unittest

from samples import Refusing, bushy
from samewise import errors
from samewise.rules import Rule
from samewise.texts import read_pattern
from samewise.trees import knots, parts

LEFT = read_pattern("f(?a, ?b)")
RIGHT = read_pattern("g(?b)")


def flat(word, many):
    """A pattern of so many parts with as few knots as can be, and the hole a in it."""
    if many <= 5:
        return ("of", word, (("any", "a"),) + (("name", "x"),) * (many - 2))
    return ("of", word, (("any", "a"), ("name", "y"), ("num", 3), flat(word, many - 4)))


class Rules(Refusing, unittest.TestCase):
    def make(self, title="swap", weight=1, left=LEFT, right=RIGHT, asks=()):
        return Rule(title, weight, left, right, list(asks))

    def no_rule(self, **given):
        self.refused(errors.NoRule, lambda: self.make(**given))

    def test_the_values(self):
        asks = [("free", "a", "x"), ("sign", "b", 3), ("number", "a")]
        rule = Rule("swap", 7, LEFT, RIGHT, asks)
        self.assertEqual((rule.title, rule.weight, rule.left, rule.right, rule.asks), ("swap", 7, LEFT, RIGHT, asks))
        self.assertIs(type(rule.asks), list)
        named = Rule(title="t", weight=1, left=LEFT, right=RIGHT, asks=[])
        self.assertEqual((named.title, named.asks), ("t", []))

    def test_titles(self):
        for title in ("a", "if", "free", "abcdefgh", "zzzzzzzz"):
            self.assertEqual(self.make(title=title).title, title)
        for title in ("", "abcdefghi", "A", "a b", "a1", "1", "-", " a", "a ", "a\n", "swap:", "?a", "\u00e9", "aB", "_"):
            self.no_rule(title=title)

    def test_weights(self):
        for weight in (1, 2, 10 ** 12 - 1, 10 ** 12):
            self.assertEqual(self.make(weight=weight).weight, weight)
        for weight in (0, -1, 10 ** 12 + 1, 10 ** 60, -10 ** 12):
            self.no_rule(weight=weight)

    def test_left_is_a_knot(self):
        for text in ("x", "3", "?a"):
            self.no_rule(left=read_pattern(text), right=("num", 1))
        self.make(left=read_pattern("f(x)"), right=("num", 1))
        self.make(left=read_pattern("f(?a)"), right=("any", "a"))

    def test_parts_of_left(self):
        for many in (2, 11, 12):
            left = flat("f", many)
            self.assertEqual((parts(left), knots(left) <= 3), (many, True))
            self.assertEqual(self.make(left=left, right=("any", "a")).left, left)
        left = flat("f", 13)
        self.assertEqual((parts(left), knots(left)), (13, 3))
        self.no_rule(left=left, right=("any", "a"))
        self.no_rule(left=bushy(120), right=("num", 1))

    def test_knots_of_left(self):
        for text, allowed in (
            ("f(f(f(?a)))", True), ("f(f(f(f(?a))))", False), ("f(g(?a), g(?a))", True), ("f(g(?a), g(?a), g(?a))", False),
            ("f(?a)", True),
        ):
            if allowed:
                self.make(left=read_pattern(text), right=("any", "a"))
            else:
                self.no_rule(left=read_pattern(text), right=("any", "a"))

    def test_right_has_as_many_knots_as_it_likes(self):
        right = ("any", "a")
        for many in range(2, 13):
            right = ("of", "g", (right,))
            self.assertEqual(parts(right), many)
            self.assertEqual(self.make(right=right).right, right)
        self.no_rule(right=("of", "g", (right,)))

    def test_parts_of_right(self):
        for many in (11, 12):
            self.make(right=flat("g", many))
        self.no_rule(right=flat("g", 13))
        self.no_rule(right=bushy(120))

    def test_right_may_be_anything_of_at_most_twelve_parts(self):
        for text in ("x", "3", "?a", "?b", "g(x, 3)", "f(?a, ?b)"):
            self.make(right=read_pattern(text))

    def test_holes_of_right(self):
        self.make(right=read_pattern("g(?a, ?b, ?a)"))
        for text in ("?c", "g(?c)", "g(?a, ?b, h(?ab))"):
            self.no_rule(right=read_pattern(text))
        self.no_rule(left=read_pattern("f(a, b)"), right=read_pattern("?a"))
        self.no_rule(left=read_pattern("a(x)"), right=read_pattern("?a"))

    def test_many_asks(self):
        ask = ("number", "a")
        for many in range(5):
            self.assertEqual(self.make(asks=[ask] * many).asks, [ask] * many)
        self.no_rule(asks=[ask] * 5)
        self.no_rule(asks=[ask] * 100)

    def test_holes_of_asks(self):
        for ask in (("free", "{}", "x"), ("sign", "{}", 3), ("number", "{}")):
            for hole in ("a", "b"):
                self.make(asks=[tuple(hole if part == "{}" else part for part in ask)])
            for hole in ("c", "f", "x", "", "A", "ab", "abcdefghi", "?a"):
                self.no_rule(asks=[tuple(hole if part == "{}" else part for part in ask)])

    def test_a_hole_that_stands_in_right_alone(self):
        self.no_rule(left=read_pattern("f(?a)"), right=read_pattern("?b"), asks=[("number", "b")])
        self.make(left=read_pattern("f(?a, ?b)"), right=read_pattern("?a"), asks=[("number", "b")])

    def test_masks(self):
        for mask in range(1, 8):
            self.make(asks=[("sign", "a", mask)])
        for mask in (0, 8, -1, 9, 16, 10 ** 30, -7):
            self.no_rule(asks=[("sign", "a", mask)])

    def test_names(self):
        for name in ("x", "if", "free", "abcdefgh", "a"):
            self.make(asks=[("free", "a", name)])
        for name in ("", "abcdefghi", "X", "x y", "x1", "1", "?a", "x\n", " x", "\u00e9"):
            self.no_rule(asks=[("free", "a", name)])

    def test_the_wrong_ask_may_stand_anywhere(self):
        good = [("free", "a", "x"), ("sign", "b", 7), ("number", "b")]
        for wrong in (("free", "a", "X"), ("sign", "b", 8), ("number", "c")):
            for place in range(4):
                self.no_rule(asks=good[:place] + [wrong] + good[place:])


class Kept(unittest.TestCase):
    def test_a_rule_keeps_a_list_of_its_own(self):
        asks = [("number", "a")]
        rule = Rule("t", 1, LEFT, RIGHT, asks)
        asks.append(("number", "b"))
        self.assertEqual(rule.asks, [("number", "a")])
        asks.clear()
        self.assertEqual(rule.asks, [("number", "a")])

    def test_what_is_handed_in_stays_as_it_was(self):
        asks = [("free", "a", "x"), ("sign", "b", 3)]
        before = copy.deepcopy((LEFT, RIGHT, asks))
        Rule("t", 1, LEFT, RIGHT, asks)
        try:
            Rule("t", 0, LEFT, RIGHT, asks)
        except errors.NoRule:
            pass
        self.assertEqual((LEFT, RIGHT, asks), before)


if __name__ == "__main__":
    unittest.main()
