"""Point 42, and points 1 and 5 as far as they speak of it: doing a sheet, and all its answers."""

import unittest

from samples import Refusing
from samewise import errors
from samewise.papers import holds
from samewise.run import run

FULL, APART, WIDE, BIG = [("refused", word) for word in ("full", "apart", "wide", "big")]
SWAP = "rule swap 1: plus(?a, ?b) = plus(?b, ?a)\n"
ENDLESS = "rule endless 1: f(?a) = f(g(?a))\n"
TOLD = ("told",)


def nested(word, many, inner="x"):
    return f"{word}(" * many + inner + ")" * many


def names_row(many, prefix="n"):
    """Rows that tell so many names to be the same, and the first of them."""
    words = [prefix + a + b for a in "abcdefghijklmnopqrst" for b in "abcdefghijklmnopqrst"][:many]
    return "".join(f"tell {words[0]} = {word}\n" for word in words[1:]), words[0]


class Answers(unittest.TestCase):
    def test_an_empty_sheet(self):
        self.assertEqual(run(""), [])
        self.assertEqual(run("\n\n"), [])

    def test_what_gives_no_answer(self):
        self.assertEqual(run(SWAP + "cost f 3\nput x\ntell x = y\ntell x = x"), [])

    def test_same(self):
        self.assertEqual(run("same x = y\ntell x = y\nsame x = y\nsame f(x) = f(y)\nsame f(x) = x\nsame z = z"),
                         [("same", False), ("same", True), ("same", True), ("same", False), ("same", True)])

    def test_grow(self):
        self.assertEqual(run("grow 5 1"), [("grow", "rest", 0)])
        self.assertEqual(run("grow 0 1"), [("grow", "open", 0)])
        self.assertEqual(run(SWAP + "put plus(x, y)\ngrow 5 1\ngrow 5 1"), [("grow", "rest", 1), ("grow", "rest", 0)])
        self.assertEqual(run(ENDLESS + "put f(x)\ngrow 3 10"), [("grow", "open", 3)])
        self.assertEqual(run(ENDLESS + "put f(x)\ngrow 9 10", 6), [("grow", "full", 2)])
        self.assertEqual(run("tell 3 = 4\ngrow 1 1"), [("grow", "odds", 0)])
        self.assertEqual(run("tell plus(3, 4) = 8\ngrow 100 1000"), [("grow", "odds", 1)])

    def test_a_rule_serves_the_growings_behind_it(self):
        told = run("put plus(x, y)\ngrow 5 9\n" + SWAP + "same plus(x, y) = plus(y, x)\ngrow 5 9\nsame plus(x, y) = plus(y, x)")
        self.assertEqual(told, [("grow", "rest", 0), ("same", False), ("grow", "rest", 1), ("same", True)])

    def test_rules_told_between_two_growings(self):
        text = "put neg(neg(plus(x, y)))\n" + SWAP + "grow 9 9\nsame neg(neg(x)) = x\n"
        text += "rule twice 1: neg(neg(?a)) = ?a\ngrow 9 9\nsame neg(neg(x)) = x\nsame neg(neg(plus(x, y))) = plus(y, x)"
        self.assertEqual(run(text), [("grow", "rest", 1), ("same", False), ("grow", "rest", 1), ("same", True), ("same", True)])

    def test_rules_are_handed_in_the_order_told(self):
        # One step a turn: the first told rule's step is done.
        first, second = "rule a 1: f(?a) = g(?a)\n", "rule b 1: f(?a) = h(?a)\n"
        asked = "put f(x)\ngrow 1 1\nsame f(x) = g(x)\nsame f(x) = h(x)"
        self.assertEqual(run(first + second + asked)[1:], [("same", True), ("same", False)])
        self.assertEqual(run(second + first + asked)[1:], [("same", False), ("same", True)])

    def test_size_is_handed_on(self):
        text = SWAP + "put plus(x, y)\nput plus(y, z)\nput plus(z, x)\n"
        self.assertEqual(run(text + "grow 9 1"), [("grow", "rest", 3)])
        self.assertEqual(run(text + "grow 9 2"), [("grow", "rest", 2)])
        self.assertEqual(run(text + "grow 9 1000"), [("grow", "rest", 1)])

    def test_why(self):
        told = run("tell x = y\nwhy f(x) = f(y)")
        self.assertEqual(told, [(
            "why", [(0, 1, 1, [("edge", 0, 1, 0)]), (2, 3, 2, [("like", 2, 3)])],
            [("name", "x"), ("name", "y"), ("of", "f", (0,)), ("of", "f", (1,))], [(0, 1, 1, TOLD)],
        )])
        self.assertEqual(run("why x = x"), [("why", [(0, 0, 0, [])], [("name", "x")], [])])

    def test_why_with_terms_and_edges_as_they_are_then(self):
        told = run("tell x = y\nwhy x = y\ntell x = z\nput w\nwhy z = y")
        self.assertEqual([len(answer[2]) for answer in told], [2, 4])
        self.assertEqual([len(answer[3]) for answer in told], [1, 2])
        for answer, ends in zip(told, ((0, 1), (2, 1))):
            self.assertTrue(holds(answer[2], answer[3], answer[1], *ends))

    def test_why_over_what_has_grown(self):
        text = "rule swap 7: plus(?a, ?b) = plus(?b, ?a)\nput plus(x, y)\ngrow 1 1\nwhy plus(y, x) = plus(x, y)"
        answer = run(text)[1]
        self.assertEqual(answer[1], [(3, 2, 7, [("edge", 3, 2, 0)])])
        self.assertEqual(answer[3], [(2, 3, 7, ("rule", "swap", (("a", 0), ("b", 1))))])

    def test_apart(self):
        self.assertEqual(run("why x = y\nput x\nwhy f(x) = x\ntell x = y\nwhy x = y")[:2], [APART, APART])
        self.assertEqual(run("why x = y\ntell x = y\nwhy x = y")[1][0], "why")

    def test_an_apart_pair_is_put_all_the_same(self):
        self.assertEqual(run("why x = y\nput z", 2), [APART, FULL])

    def test_cheap(self):
        self.assertEqual(run("cheap f(x, 3)"), [("cheap", 3, "f(x, 3)")])
        self.assertEqual(run("tell f(x, 3) = y\ncheap f(x, 3)\ncheap g(f(x, 3))"), [("cheap", 1, "y"), ("cheap", 2, "g(y)")])
        self.assertEqual(run("tell f(x, 3) = y\ncost @ 9\ncheap y\ncost f 100\ncheap y"),
                         [("cheap", 9, "y"), ("cheap", 9, "y")])
        self.assertEqual(run("tell f(3) = y\ncost @ 9\ncheap y\ncost f 9\ncheap y\ncost # 1\ncost f 7\ncheap y"),
                         [("cheap", 2, "f(3)"), ("cheap", 9, "y"), ("cheap", 8, "f(3)")])

    def test_a_cost_holds_from_there_on_and_a_later_one_in_its_place(self):
        told = run("cheap f(x)\ncost f 5\ncheap f(x)\ncost f 2\ncheap f(x)\ncost @ 1000000000000\ncheap f(x)\nshared f(x)")
        self.assertEqual([answer[1] for answer in told], [2, 6, 3, 10 ** 12 + 2, 10 ** 12 + 2])

    def test_costs_of_all_three_sorts_of_keys(self):
        self.assertEqual(run("cost # 10\ncost @ 200\ncost f 3000\ncheap f(x, 7, g(-1))"),
                         [("cheap", 3221, "f(x, 7, g(-1))")])

    def test_shared(self):
        self.assertEqual(run("shared f(g(x), g(x))\ncheap f(g(x), g(x))"),
                         [("shared", 3, "f(g(x), g(x))"), ("cheap", 5, "f(g(x), g(x))")])
        text = "tell f(p(x), p(x)) = h(x)\ncost p 10\ncost h 15\n"
        self.assertEqual(run(text + "cheap h(x)\nshared h(x)"), [("cheap", 16, "h(x)"), ("shared", 12, "f(p(x), p(x))")])

    def test_sign(self):
        told = run("sign -3\nsign 0\nsign 3\nsign x\nsign times(x, 0)\nsign plus(-3, 0)\nsign neg(neg(-3))\nsign plus(3, -3)")
        self.assertEqual([answer[1] for answer in told], ["-", "0", "+", "-0+", "0", "-", "-", "-0+"])
        self.assertEqual({answer[0] for answer in told}, {"sign"})

    def test_an_empty_fact_for_sign(self):
        self.assertEqual(run("tell 3 = -3\nsign 3\nsign neg(3)\nsign f(3)"), [("sign", ""), ("sign", ""), ("sign", "-0+")])

    def test_sign_by_the_class(self):
        self.assertEqual(run("tell x = neg(4)\nsign x\nsign times(x, x)"), [("sign", "-"), ("sign", "+")])

    def test_names(self):
        self.assertEqual(run("names f(y, g(x), y)\nnames 3\nnames bind(y, f(y, x))\nnames z"),
                         [("names", ["y", "x"]), ("names", []), ("names", ["x"]), ("names", ["z"])])
        self.assertEqual(run("put x\nput y\nnames f(y, x)"), [("names", ["x", "y"])])

    def test_names_by_the_class(self):
        self.assertEqual(run("put times(x, 0)\nrule t 1: times(?a, 0) = 0\nnames f(times(x, 0), y)\ngrow 1 9\nnames f(times(x, 0), y)"),
                         [("names", ["x", "y"]), ("grow", "open", 1), ("names", ["y"])])

    def test_number(self):
        self.assertEqual(run("number 3\nnumber x\ntell x = 7\nnumber x\ntell x = -2\nnumber x\nnumber f(x)"),
                         [("number", [3]), ("number", []), ("number", [7]), ("number", [7, -2]), ("number", [])])
        self.assertEqual(run("put plus(2, times(3, 4))\ngrow 9 9\nnumber plus(2, times(3, 4))"),
                         [("grow", "rest", 2), ("number", [14])])

    def test_answers_in_their_order(self):
        told = run("same x = y\nput x\nnumber 3\ngrow 1 1\ncheap x\nsign 0\nnames x\nshared x\nwhy x = x")
        self.assertEqual([answer[0] for answer in told],
                         ["same", "number", "grow", "cheap", "sign", "names", "shared", "why"])
        self.assertTrue(all(type(answer) is tuple for answer in told))


class Room(unittest.TestCase):
    def test_every_order_that_puts(self):
        for row in ("put f(x)", "same f(x) = x", "why x = f(x)", "cheap f(x)", "shared f(x)", "sign f(x)", "names f(x)",
                    "number f(x)", "tell x = f(x)"):
            # The bench is as it was: y still fits, and then nothing more.
            self.assertEqual(run(f"{row}\nput y\nput x\nsame y = y", 1), [FULL, FULL, ("same", True)], row)

    def test_the_first_tree_of_a_pair_goes_again(self):
        for word in ("same", "why", "tell"):
            self.assertEqual(run(f"{word} x = f(y)\nput y\nput z\nput w", 2), [FULL, FULL], word)

    def test_a_refused_tell_tells_nothing(self):
        told = run("put x\nput y\ntell x = f(y)\nsame x = y\nwhy x = x", 2)
        self.assertEqual(told, [FULL, ("same", False), ("why", [(0, 0, 0, [])], [("name", "x"), ("name", "y")], [])])

    def test_left_out_it_is_a_hundred_and_twenty(self):
        rows = "".join(f"put {k}\n" for k in range(120))
        self.assertEqual(run(rows + "put 119\nput 120\nsame 0 = 0"), [FULL, ("same", True)])
        self.assertEqual(run(rows + "put x", 121), [])

    def test_one_and_four_hundred(self):
        self.assertEqual(run("put x\nput x\nput y", 1), [FULL])
        rows = "".join(f"put f({2 * k}, {2 * k + 1})\n" for k in range(133)) + "put x\n"
        self.assertEqual(run(rows + "put x\nput y\nput f(0, 1)", room=400), [FULL])
        self.assertEqual(run(text=rows + "put x", room=400), [])

    def test_a_growing_that_is_full_leaves_the_bench_as_it_was(self):
        text = ENDLESS + "put f(x)\ngrow 9 9\nwhy x = x\ngrow 9 9\nwhy x = x"
        told = run(text, 5)
        self.assertEqual([answer[:2] for answer in told[::2]], [("grow", "full"), ("grow", "full")])
        self.assertEqual(told[1], told[3])
        self.assertEqual(len(told[1][2]), 4)


class Greatness(unittest.TestCase):
    def test_wide(self):
        for many, wanted in ((200, ("shared", 1)), (201, WIDE)):
            rows, first = names_row(many - 1)
            told = run(rows + f"tell {first} = 5\ncheap {first}\nshared {first}", 400)
            self.assertEqual((told[0][0], told[1][:2]), ("cheap", wanted))

    def test_five_hundred_parts_and_one_more(self):
        # No tree of a sheet has so many parts, so they are put in pieces; dear names make the pieces be spelled out.
        level = "3"
        for _ in range(5):
            level = f"d({level}, {level})"
        text = f"tell p = {level}\ntell q = d(p, p)\ntell r = d(q, q)\ncost @ 1000000000000\n"
        # p has 63 parts, q 127 and r 255, so 54 more and the knot itself make 500.
        chain, shorter = nested("f", 26, "3"), nested("f", 25, "3")
        just = f"g(r, q, p, h({chain}, {shorter}))"
        beyond = f"g(r, q, p, h({chain}, {chain}))"
        told = run(text + f"cheap {just}\nshared {just}\ncheap {beyond}\nshared {beyond}\ncheap r\ncheap d(r, r)\nshared d(r, r)")
        self.assertEqual([answer[0] for answer in told[:2]], ["cheap", "shared"])
        self.assertEqual(told[0][1], 500)
        for answer in told[:2]:
            self.assertEqual(answer[2].count("3") + answer[2].count("("), 500)
        # One each of g, h, 3 and the knots of q, r; five of p, and the longer chain.
        self.assertEqual(told[1][1], 5 + 5 + 26)
        self.assertEqual(told[2:4], [BIG, BIG])
        self.assertEqual(told[4][1], 255)
        self.assertEqual(told[5:], [BIG, BIG])

    def test_sixty_deep_and_one_more(self):
        text = "tell p = " + nested("f", 29, "3") + "\ntell q = " + nested("f", 29, "p") + "\ncost @ 1000\n"
        # p is 30 deep, q 59.
        told = run(text + "cheap f(q)\nshared f(q)\ncheap f(f(q))\nshared f(f(q))")
        self.assertEqual(told, [("cheap", 60, nested("f", 59, "3")), ("shared", 60, nested("f", 59, "3")), BIG, BIG])

    def test_wide_comes_ahead_of_big(self):
        rows, first = names_row(101)
        text = "tell p = " + nested("f", 29, "3") + "\ntell q = " + nested("f", 29, "p") + "\ncost @ 1000\n" + rows
        told = run(text + f"shared f(f(q))\ncheap g(f(f(q)), {first})\nshared g(f(f(q)), {first})", 400)
        self.assertEqual(told, [BIG, BIG, WIDE])


class Reading(Refusing, unittest.TestCase):
    def test_no_row(self):
        self.assertEqual(self.refused(errors.NoRow, run, "put x\n\nput").line, 3)
        self.assertEqual(self.refused(errors.NoRow, run, "put x\nsame x").line, 2)
        self.assertEqual(self.refused(errors.NoRow, run, SWAP + SWAP).line, 2)

    def test_the_whole_sheet_is_read_first(self):
        # Neither odds nor a full room come ahead of the last row.
        self.assertEqual(self.refused(errors.NoRow, run, "put f(g(x))\ntell 3 = 4\ngrow 9 9\nno row", 1).line, 4)


class Kept(unittest.TestCase):
    def test_what_is_told_is_the_askers_own(self):
        text = "tell x = y\nwhy x = y\nnames f(x)\nnumber 3\nwhy x = y"
        told = run(text)
        again = run(text)
        told[0][1].clear(), told[0][2].clear(), told[0][3].clear(), told[1][1].clear(), told[2][1].clear()
        self.assertEqual(told[3], again[3])
        self.assertEqual(run(text), again)

    def test_one_run_leaves_nothing_for_the_next(self):
        run(SWAP + "cost f 9\ntell x = y\nput plus(x, z)\ngrow 9 9")
        self.assertEqual(run("same x = y\ncheap f(x)\nput plus(x, z)\ngrow 9 9"),
                         [("same", False), ("cheap", 2, "f(x)"), ("grow", "rest", 0)])


if __name__ == "__main__":
    unittest.main()
