"""Point 28, and points 5 and 27 for the rules that are read: how rules are written, and just what is read."""

import itertools
import unittest

from samples import Refusing
from samewise import errors
from samewise.rules import Rule
from samewise.ruletext import read_rule, show_rule
from samewise.texts import read_pattern

# Writings with what they stand for: title, weight, left, right, asks.
RULES = (
    ("swap 1: plus(?a, ?b) = plus(?b, ?a)", "swap", 1, "plus(?a, ?b)", "plus(?b, ?a)", []),
    ("z 1000000000000: f(x) = 3", "z", 10 ** 12, "f(x)", "3", []),
    ("abcdefgh 10: f(?a) = ?a", "abcdefgh", 10, "f(?a)", "?a", []),
    ("t 2: f(?a) = x if free ?a x", "t", 2, "f(?a)", "x", [("free", "a", "x")]),
    ("t 2: f(?a, ?b) = x if sign ?b -0", "t", 2, "f(?a, ?b)", "x", [("sign", "b", 3)]),
    ("t 2: f(?a) = -7 if number ?a", "t", 2, "f(?a)", "-7", [("number", "a")]),
    ("t 2: f(?a, ?b) = g(?b, ?a) if free ?a x, sign ?b -0, number ?a, sign ?a +", "t", 2, "f(?a, ?b)", "g(?b, ?a)",
     [("free", "a", "x"), ("sign", "b", 3), ("number", "a"), ("sign", "a", 4)]),
    ("if 1: if(?if) = if if free ?if if", "if", 1, "if(?if)", "if", [("free", "if", "if")]),
    ("if 1: if(?if, if) = if", "if", 1, "if(?if, if)", "if", []),
    ("free 1: free(?free) = f(if, if, ?free) if free ?free free, number ?free", "free", 1, "free(?free)",
     "f(if, if, ?free)", [("free", "free", "free"), ("number", "free")]),
    ("sign 3: number(?sign, sign) = ?sign if sign ?sign 0, free ?sign number", "sign", 3, "number(?sign, sign)", "?sign",
     [("sign", "sign", 2), ("free", "sign", "number")]),
    ("number 3: f(?number) = number if number ?number, number ?number", "number", 3, "f(?number)", "number",
     [("number", "number"), ("number", "number")]),
)
MASKS = {1: "-", 2: "0", 3: "-0", 4: "+", 5: "-+", 6: "0+", 7: "-0+"}
WRONG = (
    "", " ", "swap", "swap 1", "swap 1:", "swap 1: ", "swap 1: f(?a)", "swap 1: f(?a) =", "swap 1: f(?a) = ",
    "swap 1 f(?a) = ?a", "swap 1:f(?a) = ?a", "swap 1 : f(?a) = ?a", "swap1: f(?a) = ?a", "swap: f(?a) = ?a",
    "1: f(?a) = ?a", " 1: f(?a) = ?a", "swap  1: f(?a) = ?a", "swap 1:  f(?a) = ?a", " swap 1: f(?a) = ?a",
    "swap 1: f(?a)  = ?a", "swap 1: f(?a) =  ?a", "swap 1: f(?a) = ?a ", "swap 1: f(?a)= ?a", "swap 1: f(?a) =?a",
    "swap 1: f(?a)=?a", "swap 1: f(?a) == ?a", "swap 1: f(?a) = ?a = ?a", "swap 1: f(?a) = ?a\n", "\nswap 1: f(?a) = ?a",
    "swap 1: f(?a) = ?a\nswap 1: f(?a) = ?a", "swap\t1: f(?a) = ?a", "swap 1: f(?a) = ?b", "swap 1: ?a = ?a",
    "swap 1: x = x", "swap 1: 3 = 3", "swap 1: f( ?a) = ?a", "swap 1: f(?a,?a) = ?a", "swap 1: f(?a = ?a",
    "swap 1: f(?a) = g(?a", "swap 1: f(?A) = 1", "swap 1: f(01) = 1", "swap 1: f(-0) = 1", "swap 1: f() = 1",
    "Swap 1: f(?a) = ?a", "sw-ap 1: f(?a) = ?a", "abcdefghi 1: f(?a) = ?a", "rule swap 1: f(?a) = ?a",
    "swap 0: f(?a) = ?a", "swap 00: f(?a) = ?a", "swap 01: f(?a) = ?a", "swap -1: f(?a) = ?a", "swap +1: f(?a) = ?a",
    "swap 1.0: f(?a) = ?a", "swap 1e3: f(?a) = ?a", "swap 1_0: f(?a) = ?a", "swap x: f(?a) = ?a", "swap ?: f(?a) = ?a",
    "swap 1000000000001: f(?a) = ?a", "swap " + "9" * 60 + ": f(?a) = ?a", "swap " + "9" * 3000 + ": f(?a) = ?a",
    "swap 1 1: f(?a) = ?a", "swap \u0661: f(?a) = ?a", "swap \u00b2: f(?a) = ?a", "swap 1: f(?a) = ?a :", "a 1; f(x) = x",
    "swap 1: f(f(f(f(?a)))) = ?a", "swap 1: f(?a) = " + "f(" * 12 + "?a" + ")" * 12,
)
WRONG_ASKS = (
    " if", " if ", " if  number ?a", "  if number ?a", " if number ?a ", " if number ?a,", " if number ?a, ", " if, number ?a",
    " if number ?a,number ?a", " if number ?a,  number ?a", " if number ?a , number ?a", " if number ?a if number ?a",
    " if number ?a number ?a", " if number", " if number ", " if number a", " if number ?", " if number ??a", " if number ?A",
    " if number ?c", " if number  ?a", " if number ?a x", " if number ?a 3", " if Number ?a", " if numbers ?a", " if num ?a",
    " if sign ?a", " if sign ?a ", " if sign ?a  -", " if sign ?a - 0", " if sign ?a 0-", " if sign ?a +-", " if sign ?a +0",
    " if sign ?a +0-", " if sign ?a --", " if sign ?a 00", " if sign ?a ++", " if sign ?a -0+-", " if sign ?a 3",
    " if sign ?a x", " if sign ?a -x", " if sign a -", " if sign ?c -", " if sign - ?a", " if sign ?a -,0", " if sign ?a -\n",
    " if free ?a", " if free ?a ", " if free x", " if free x ?a", " if free ?a ?b", " if free ?a X", " if free ?a x y",
    " if free ?a  x", " if free ?a 1", " if free ?a f(x)", " if free ?a abcdefghi", " if free ?c x", " if free a x",
    " if free ?a x\n", " if free ?a x,", " if ?a", " if x", " if if", " if number ?a\n", " If number ?a", " when number ?a",
    " if number ?a, number ?a, number ?a, number ?a, number ?a", "if number ?a",
)


class Writing(Refusing, unittest.TestCase):
    def same(self, rule, title, weight, left, right, asks):
        self.assertIsInstance(rule, Rule)
        self.assertEqual((rule.title, rule.weight, rule.asks), (title, weight, asks))
        self.assertEqual((rule.left, rule.right), (read_pattern(left), read_pattern(right)))

    def test_written_and_read_back(self):
        for text, title, weight, left, right, asks in RULES:
            rule = Rule(title, weight, read_pattern(left), read_pattern(right), asks)
            self.assertEqual(show_rule(rule), text)
            self.same(read_rule(text), title, weight, left, right, asks)
            self.assertEqual(show_rule(read_rule(text)), text)

    def test_every_mask(self):
        for mask, signs in MASKS.items():
            text = f"t 1: f(?a) = ?a if sign ?a {signs}"
            self.assertEqual(read_rule(text).asks, [("sign", "a", mask)])
            self.assertEqual(show_rule(Rule("t", 1, read_pattern("f(?a)"), ("any", "a"), [("sign", "a", mask)])), text)

    def test_every_other_row_of_mask_signs_is_refused(self):
        for many in range(4):
            for signs in itertools.product("-0+", repeat=many):
                text = "".join(signs)
                if text not in MASKS.values():
                    self.refused(errors.NoRule, read_rule, f"t 1: f(?a) = ?a if sign ?a {text}")

    def test_weights(self):
        for weight in (1, 9, 10, 10 ** 12 - 1, 10 ** 12):
            self.assertEqual(read_rule(f"t {weight}: f(?a) = ?a").weight, weight)
        for weight in (0, 10 ** 12 + 1, 10 ** 13, -1, -10 ** 12):
            self.refused(errors.NoRule, read_rule, f"t {weight}: f(?a) = ?a")

    def test_sides_at_their_bounds(self):
        left = "f(?a, g(1, 2, 3, 4), h(1, 2, 3, 4))"
        self.same(read_rule(f"t 1: {left} = ?a"), "t", 1, left, "?a", [])
        self.refused(errors.NoRule, read_rule, "t 1: f(?a, ?a, g(1, 2, 3, 4), h(1, 2, 3, 4)) = ?a")
        right = "f(" * 11 + "?a" + ")" * 11
        self.same(read_rule(f"t 1: f(?a) = {right}"), "t", 1, "f(?a)", right, [])

    def test_four_asks_and_five(self):
        for many in range(1, 5):
            rule = read_rule("t 1: f(?a) = ?a if " + ", ".join(["number ?a"] * many))
            self.assertEqual(rule.asks, [("number", "a")] * many)
        self.refused(errors.NoRule, read_rule, "t 1: f(?a) = ?a if " + ", ".join(["number ?a"] * 5))

    def test_what_is_written_otherwise_is_refused(self):
        for text in WRONG:
            self.refused(errors.NoRule, read_rule, text)

    def test_asks_that_are_written_otherwise_are_refused(self):
        plain = "swap 1: f(?a, ?b) = g(?a)"
        read_rule(plain), read_rule(plain + " if number ?a")
        for text in WRONG_ASKS:
            self.refused(errors.NoRule, read_rule, plain + text)

    def test_one_sign_more_or_less_or_another(self):
        # Whatever is read must be the writing of what was read.
        for text, *_ in RULES[:10]:
            for place in range(len(text) + 1):
                for sign in ("", " ", "a", "0", "-", "?", ",", ":", "=", "(", ")", "1", "\n", "+"):
                    for other in (text[:place] + sign + text[place:], text[:place] + sign + text[place + 1:]):
                        try:
                            self.assertEqual(show_rule(read_rule(other)), other)
                        except errors.SameError as refusal:
                            self.assertIs(type(refusal), errors.NoRule)

    def test_the_rule_is_not_changed(self):
        rule = read_rule(RULES[6][0])
        before = (rule.title, rule.weight, rule.left, rule.right, list(rule.asks))
        show_rule(rule)
        self.assertEqual((rule.title, rule.weight, rule.left, rule.right, rule.asks), before)

    def test_two_readings_have_nothing_in_common(self):
        one, other = read_rule(RULES[6][0]), read_rule(RULES[6][0])
        one.asks.clear()
        self.assertEqual(len(other.asks), 4)
        self.assertEqual(len(read_rule(RULES[6][0]).asks), 4)


if __name__ == "__main__":
    unittest.main()
