"""Points 40 and 41, and point 5 for NoRow: the rows of a sheet and the orders they are read to."""

import unittest

from samples import Refusing, chain
from samewise import errors
from samewise.rules import Rule
from samewise.ruletext import show_rule
from samewise.sheet import read_sheet
from samewise.texts import read, shown

X, Y = ("name", "x"), ("name", "y")
SWAP = "swap 1: plus(?a, ?b) = plus(?b, ?a)"
PAIRS = ("tell", "same", "why")
SINGLES = ("put", "cheap", "shared", "sign", "names", "number")
RIGHT = (
    "rule " + SWAP, "rule rule 1: f(?a) = x if free ?a rule", "cost f 1", "cost # 1000000000000", "cost @ 7", "cost cost 12",
    "put x", "put put", "put f(x, -3)", "tell x = y", "tell tell = f(tell)", "grow 0 1", "grow 100 1000", "grow 10 100",
    "same x = x", "why f(x) = 3", "cheap f(x)", "shared 0", "sign -7", "names names", "number number",
)
WRONG = (
    " ", "  ", "\t", "x", "put", "put ", "put  x", " put x", "put x ", "put\tx", "put x y", "put x, y", "put ?a", "put f(?a)",
    "put 01", "put -0", "put f(x,y)", "put f(x", "put x = y", "Put x", "PUT x", "puts x", "pu x", "put X", "put x\r", "put x\t",
    "tell x", "tell x =", "tell x = ", "tell = y", "tell  = y", "tell x y", "tell x=y", "tell x= y", "tell x =y", "tell x  = y",
    "tell x =  y", "tell x = y ", "tell x = y = x", "tell x == y", "tell ?a = y", "tell x = ?a", " tell x = y", "tell",
    "same x", "same x = ", "same = x", "same x = y = z", "same x, y", "why x", "why x = ", "why = x", "why x y",
    "cheap", "cheap ", "cheap x = y", "cheap ?a", "shared", "shared x y", "sign", "sign ?a", "names", "names x = y", "number",
    "number 1 2", "sign x 0", "cost", "cost f", "cost f ", "cost 3", "cost  3", "cost f 0", "cost f 00", "cost f 01", "cost f -1",
    "cost f +1", "cost f 1000000000001", "cost f 9999999999999", "cost f x", "cost f 1 ", "cost f  1", " cost f 1", "cost f 1 1",
    "cost F 1", "cost abcdefghi 1", "cost ## 1", "cost @@ 1", "cost #@ 1", "cost ? 1", "cost ?a 1", "cost f, 1", "cost f(x) 1",
    "cost 1 1", "cost - 1", "cost f 1.0", "cost f 1e3", "cost f 1_0", "cost f " + "9" * 61, "cost f " + "1" * 3900, "cost f \u0661",
    "cost \u00e9 1", "grow", "grow 1", "grow 1 ", "grow 1 0", "grow 0 0", "grow 101 1", "grow 1 1001", "grow 01 1", "grow 1 01",
    "grow 00 1", "grow -1 1", "grow 1 -1", "grow +1 1", "grow 1 1 1", "grow 1  1", "grow  1 1", "grow 1 1 ", " grow 1 1",
    "grow x 1", "grow 1 x", "grow 1,1", "grow 1, 1", "grow 1000 100", "grow " + "1" * 3000 + " 1", "grow \u0661 1", "grow 1 \u00b2",
    "rule", "rule ", "rule swap", "rule  " + SWAP, " rule " + SWAP, "rule " + SWAP + " ", "rule " + SWAP + " if", SWAP,
    "rule swap 0: f(?a) = ?a", "rule swap 1: ?a = ?a", "rule swap 1: f(?a) = ?b", "Rule " + SWAP, "rule f(?a) = ?a",
    "rule swap 1: f(?a) = ?a if sign ?a 0-", "rule swap 1000000000001: f(?a) = ?a", "# a remark", "@", "#", "grow 1 1 # rest",
    "tree x", "find x", "paper x = y", "prices x", "odds", "\x0b", "put x\x0bput y", "put \u00e9",
)


class Orders(unittest.TestCase):
    def test_nothing(self):
        for text in ("", "\n", "\n\n\n"):
            self.assertEqual(read_sheet(text), [])

    def test_rules(self):
        told = read_sheet("rule " + SWAP)
        self.assertEqual(len(told), 1)
        self.assertEqual((type(told[0]), len(told[0]), told[0][0]), (tuple, 2, "rule"))
        self.assertIsInstance(told[0][1], Rule)
        self.assertEqual(show_rule(told[0][1]), SWAP)
        asked = "t 5: f(?a, ?b) = x if free ?a x, sign ?b -0, number ?a"
        self.assertEqual(show_rule(read_sheet("rule " + asked)[0][1]), asked)

    def test_costs(self):
        self.assertEqual(read_sheet("cost f 1\ncost # 2\ncost @ 1000000000000\ncost abcdefgh 10\ncost f 3"), [
            ("cost", "f", 1), ("cost", "#", 2), ("cost", "@", 10 ** 12), ("cost", "abcdefgh", 10), ("cost", "f", 3),
        ])

    def test_growing(self):
        self.assertEqual(read_sheet("grow 0 1\ngrow 100 1000\ngrow 7 20"),
                         [("grow", 0, 1), ("grow", 100, 1000), ("grow", 7, 20)])

    def test_two_trees(self):
        for word in PAIRS:
            self.assertEqual(read_sheet(word + " x = y"), [(word, X, Y)])
            self.assertEqual(read_sheet(word + " f(x, -3) = f(g(y))"), [(word, read("f(x, -3)"), read("f(g(y))"))])

    def test_one_tree(self):
        for word in SINGLES:
            self.assertEqual(read_sheet(word + " x"), [(word, X)])
            self.assertEqual(read_sheet(f"{word} f(g({word}), -12)"), [(word, read(f"f(g({word}), -12)"))])

    def test_every_right_row(self):
        for row in RIGHT:
            told = read_sheet(row)
            self.assertEqual(len(told), 1)
            self.assertEqual(told[0][0], row.split(" ")[0])
            self.assertIs(type(told[0]), tuple)

    def test_many_rows_in_their_order(self):
        told = read_sheet("\n".join(RIGHT))
        self.assertEqual([order[0] for order in told], [row.split(" ")[0] for row in RIGHT])

    def test_empty_rows_are_passed_over(self):
        self.assertEqual(read_sheet("\n\nput x\n\n\ntell x = y\n\n"), [("put", X), ("tell", X, Y)])

    def test_two_hundred_rows(self):
        self.assertEqual(read_sheet("put x\n" * 199 + "sign y"), [("put", X)] * 199 + [("sign", Y)])

    def test_trees_at_their_bounds(self):
        self.assertEqual(read_sheet("put " + shown(chain(30))), [("put", chain(30))])
        self.assertEqual(read_sheet("put " + "9" * 60), [("put", ("num", 10 ** 60 - 1))])

    def test_rules_of_unlike_titles(self):
        rows = ["rule t 1: f(?a) = ?a", "rule u 1: f(?a) = ?a", "put t", "rule tu 1: f(?a) = ?a"]
        self.assertEqual([order[0] for order in read_sheet("\n".join(rows))], ["rule", "rule", "put", "rule"])

    def test_what_is_told_is_the_askers_own(self):
        text = "put x\nrule t 1: f(?a) = ?a if number ?a"
        told = read_sheet(text)
        told[1][1].asks.clear()
        told.clear()
        self.assertEqual([order[0] for order in read_sheet(text)], ["put", "rule"])
        self.assertEqual(read_sheet(text)[1][1].asks, [("number", "a")])


class Refusals(Refusing, unittest.TestCase):
    def line(self, text):
        return self.refused(errors.NoRow, read_sheet, text).line

    def test_every_wrong_row(self):
        for row in WRONG:
            self.assertEqual(self.line(row), 1, row)

    def test_the_line_counts_empty_rows(self):
        for row in WRONG:
            self.assertEqual(self.line("\nput x\n\n\n" + row + "\nput y"), 5, row)

    def test_the_first_such_row(self):
        self.assertEqual(self.line("put x\nput\nput ?a\nx"), 2)
        self.assertEqual(self.line("put x\n\ncost f 0\nrule t"), 3)
        self.assertEqual(self.line("rule t 1: f(?a) = ?a\nrule t 1: f(?a) = ?a\nx"), 2)
        self.assertEqual(self.line("rule t 1: f(?a) = ?a\nx\nrule t 1: f(?a) = ?a"), 2)

    def test_the_last_row(self):
        self.assertEqual(self.line("put x\n" * 199 + "put"), 200)
        self.assertEqual(self.line("put x\n "), 2)

    def test_a_title_told_twice(self):
        self.assertEqual(self.line("rule t 1: f(?a) = ?a\n\nput x\nrule t 2: g(?a) = ?a"), 4)
        self.assertEqual(self.line("rule t 1: f(?a) = ?a\nrule u 1: f(?a) = ?a\nrule t 1: f(?a) = ?a"), 3)

    def test_trees_beyond_their_bounds(self):
        self.assertEqual(self.line("put x\nput " + shown(chain(31))), 2)
        self.assertEqual(self.line("put " + "9" * 61), 1)
        self.assertEqual(self.line("put f(" + ", ".join(["g(x, x, x, x)"] * 5) + ")"), 1)

    def test_only_a_line_feed_ends_a_row(self):
        for end in ("\r", "\r\n", "\x0b", "\x0c", "\x1c", "\x85", "\u2028"):
            self.assertEqual(self.line(f"put x{end}put y"), 1)


if __name__ == "__main__":
    unittest.main()
