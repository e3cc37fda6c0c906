"""Points 32 to 35, and points 1, 3, 4 and 5 as far as they speak of them: news, turns, growing, and rest."""

import copy
import itertools
import random
import unittest

from samples import Refusing, random_cases
from samewise import errors
from samewise.bank import tree_of
from samewise.bench import Bench, leads_of
from samewise.closed import class_of, closed, marks, nodes
from samewise.grow import grow, news, turn
from samewise.kinds import Names, Signs
from samewise.learn import learned, odds
from samewise.match import holding, matches
from samewise.papers import holds, paper
from samewise.ruletext import read_rule
from samewise.texts import read
from samewise.trees import holes

SWAP = read_rule("swap 1: plus(?a, ?b) = plus(?b, ?a)")
TURN = read_rule("turn 2: plus(plus(?a, ?b), ?c) = plus(?a, plus(?b, ?c))")
BACK = read_rule("back 2: plus(?a, plus(?b, ?c)) = plus(plus(?a, ?b), ?c)")
NOUGHT = read_rule("nought 3: plus(?a, 0) = ?a")
ONE = read_rule("one 3: times(?a, 1) = ?a")
SPREAD = read_rule("spread 5: times(?a, plus(?b, ?c)) = plus(times(?a, ?b), times(?a, ?c))")
DOUBLE = read_rule("double 1: neg(neg(?a)) = ?a")
ENDLESS = read_rule("endless 1: f(?a) = f(g(?a))")
SHORT = read_rule("short 1: abs(?a) = ?a if sign ?a 0+")
OTHER = read_rule("other 1: abs(?a) = neg(?a) if sign ?a -0")
CONST = read_rule("const 1: bind(x, ?a) = ?a if free ?a x")
KNOWN = read_rule("known 1: f(?a) = 3 if number ?a")
SUM = ("sum",)
GREAT = 10 ** 60 - 1


def num(value):
    return ("num", value)


def bench_of(*rows, room=400):
    """A bench with the trees of these writings, put or, with an equals sign between two, told."""
    bench = Bench(room)
    for row in rows:
        one, _, other = row.partition(" = ")
        if other:
            bench.tell(read(one), read(other))
        else:
            bench.put(read(one))
    return bench


def state(bench):
    return (list(bench.bank.terms), bench.bank.room, list(bench.edges))


def slow_news(bench, rules):
    """The words of point 32, by way of the parts that have tests of their own."""
    terms, leads = bench.bank.terms, leads_of(bench)
    if odds(terms, leads):
        return []
    standing = {leads[k]: term[1] for k, term in enumerate(terms) if term[0] == "num"}
    places = sorted(k for row in nodes(terms, leads).values() for k in row)
    deeds = {("plus", 2): lambda a, b: a + b, ("times", 2): lambda a, b: a * b, ("neg", 1): lambda a: -a}
    found = []
    for k in places:
        term = terms[k]
        if term[0] == "of" and (term[1], len(term[2])) in deeds and all(leads[n] in standing for n in term[2]):
            values = [standing[leads[n]] for n in term[2]]
            result = deeds[term[1], len(values)](*values)
            if -10 ** 60 < result < 10 ** 60 and standing.get(leads[k]) != result:
                found.append((SUM, 1, ("of", term[1], tuple(map(num, values))), num(result), {}))
    signs, names = Signs(terms, leads), Names(terms, leads)
    for rule in rules:
        for k, binds in matches(terms, leads, rule.left):
            if holding(rule, binds, signs, learned(signs)[0], names, learned(names)[0]):
                if class_of(marks(terms, leads), leads, rule.right, binds) != leads[k]:
                    why = ("rule", rule.title, tuple((hole, binds[hole]) for hole in holes(rule.left)))
                    found.append((why, rule.weight, rule.left, rule.right, binds))
    return found


def swap_step(a, b):
    return (("rule", "swap", (("a", a), ("b", b))), 1, SWAP.left, SWAP.right, {"a": a, "b": b})


class Sums(unittest.TestCase):
    def told(self, *rows):
        return news(bench_of(*rows), [])

    def test_no_news(self):
        self.assertEqual(news(Bench(5), []), [])
        self.assertEqual(self.told("x", "3", "plus(x, 3)", "neg(x)", "times(x, y)"), [])

    def test_plus_times_and_neg(self):
        for text, left, result in (
            ("plus(3, 4)", ("of", "plus", (num(3), num(4))), 7),
            ("times(-3, 4)", ("of", "times", (num(-3), num(4))), -12),
            ("neg(3)", ("of", "neg", (num(3),)), -3),
            ("neg(0)", ("of", "neg", (num(0),)), 0),
            ("times(5, 0)", ("of", "times", (num(5), num(0))), 0),
            ("plus(2, 2)", ("of", "plus", (num(2), num(2))), 4),
        ):
            told = self.told(text)
            self.assertEqual(told, [(SUM, 1, left, num(result), {})])
            self.assertEqual([type(part) for part in told[0]], [tuple, int, tuple, tuple, dict])

    def test_numbers_that_stand_in_the_classes_of_the_arms(self):
        # x is 3, y is 4: the left is made of the numbers.
        self.assertEqual(self.told("x = 3", "y = 4", "plus(x, y)"),
                         [(SUM, 1, ("of", "plus", (num(3), num(4))), num(7), {})])
        self.assertEqual(self.told("x = 3", "plus(x, z)"), [])

    def test_rising_through_the_nodes(self):
        told = self.told("neg(5)", "times(2, 2)", "plus(5, 2)")
        self.assertEqual([step[3] for step in told], [num(-5), num(4), num(7)])

    def test_one_step_for_each_node(self):
        # plus(x, 4) and plus(3, 4) have one mark.
        self.assertEqual(len(self.told("x = 3", "plus(x, 4)", "plus(3, 4)")), 1)
        # Two nodes of one class, each with its sum.
        self.assertEqual(len(self.told("plus(1, 6) = plus(3, 4)")), 2)

    def test_what_stands_in_the_class_is_no_news(self):
        self.assertEqual(self.told("plus(3, 4) = 7"), [])
        self.assertEqual(self.told("neg(0) = 0"), [])
        # 7 is held, but in another class.
        self.assertEqual(len(self.told("plus(3, 4)", "7")), 1)
        # The class has another number, which isn't at odds yet.
        self.assertEqual([step[3] for step in self.told("plus(3, 4) = 8")], [num(7)])

    def test_other_numbers_of_arms_are_not_understood(self):
        self.assertEqual(self.told("plus(3)", "plus(1, 2, 3)", "plus(1, 2, 3, 4)", "times(3)", "times(1, 2, 3)",
                                   "neg(1, 2)", "neg(1, 2, 3)", "f(1, 2)", "bind(1, 2)"), [])

    def test_names_of_these_words_are_names(self):
        self.assertEqual(self.told("plus", "times = 3", "neg"), [])

    def test_a_result_beyond_the_bounds_is_no_news(self):
        half = 5 * 10 ** 59
        self.assertEqual(self.told(f"plus({GREAT}, 1)", f"plus(-{GREAT}, -1)", f"times({half}, 2)", f"plus({half}, {half})"), [])
        self.assertEqual([step[3] for step in self.told(f"plus({GREAT - 1}, 1)")], [num(GREAT)])
        self.assertEqual([step[3] for step in self.told(f"plus({1 - GREAT}, -1)")], [num(-GREAT)])
        self.assertEqual([step[3] for step in self.told(f"neg({GREAT})", f"neg(-{GREAT})")], [num(-GREAT), num(GREAT)])
        self.assertEqual(self.told(f"times({GREAT}, {GREAT})", f"times(-{GREAT}, {GREAT})"), [])

    def test_at_odds_there_is_none(self):
        self.assertEqual(self.told("plus(3, 4)", "5 = 6"), [])
        self.assertEqual(news(bench_of("plus(x, y)", "5 = 6"), [SWAP]), [])
        self.assertEqual(len(news(bench_of("plus(x, y)", "5 = z"), [SWAP])), 1)


class ByRules(unittest.TestCase):
    def test_the_form_of_a_step(self):
        # x y plus(x, y)
        told = news(bench_of("plus(x, y)"), [SWAP])
        self.assertEqual(told, [swap_step(0, 1)])
        self.assertEqual([type(part) for part in told[0]], [tuple, int, tuple, tuple, dict])

    def test_pairs_go_in_the_order_of_the_holes_of_left(self):
        rule = read_rule("t 4: f(?b, g(?c, ?b), ?a) = ?a")
        bench = bench_of("f(x, g(y, x), z)")
        # x y g z f
        self.assertEqual(news(bench, [rule]), [
            (("rule", "t", (("b", 0), ("c", 1), ("a", 3))), 4, rule.left, rule.right, {"b": 0, "c": 1, "a": 3}),
        ])

    def test_right_in_the_same_class_is_no_news(self):
        self.assertEqual(news(bench_of("plus(x, y) = plus(y, x)"), [SWAP]), [])
        # Held, but not told to be the same.
        self.assertEqual(news(bench_of("plus(x, y)", "plus(y, x)"), [SWAP]), [swap_step(0, 1), swap_step(1, 0)])
        # Held up to sameness alone, in the same class: plus(x, x) with x the same as y.
        self.assertEqual(news(bench_of("plus(x, y)", "x = y"), [SWAP]), [])

    def test_right_that_is_held_in_another_class_up_to_sameness(self):
        rule = read_rule("t 1: f(?a) = g(?a)")
        self.assertEqual(len(news(bench_of("f(x)", "g(y)", "x = y"), [rule])), 1)
        self.assertEqual(news(bench_of("f(x) = g(y)", "x = y"), [rule]), [])

    def test_sums_first_and_then_the_rules_in_the_order_handed(self):
        bench = bench_of("plus(x, plus(1, 2))", "neg(neg(x))")
        for rules in itertools.permutations([SWAP, DOUBLE, BACK]):
            told = news(bench, list(rules))
            self.assertEqual(told, slow_news(bench, rules))
            titles = [step[0][1] for step in told if step[0] != SUM]
            self.assertEqual(told[0][0], SUM)
            self.assertEqual(list(dict.fromkeys(titles)), [rule.title for rule in rules])

    def test_asks_by_signs(self):
        # abs(2), abs(neg(2)), abs(0), abs(x): the last one may be anything.
        bench = bench_of("abs(2)", "abs(neg(2))", "abs(0)", "abs(x)")
        told = news(bench, [SHORT, OTHER])
        self.assertEqual([(step[0][1], step[4]["a"]) for step in told if step[0] != SUM], [
            ("short", bench.bank.find(num(2))), ("short", bench.bank.find(num(0))),
            ("other", bench.bank.find(read("neg(2)"))), ("other", bench.bank.find(num(0))),
        ])

    def test_asks_by_names(self):
        bench = bench_of("bind(x, f(y))", "bind(x, f(x))", "bind(x, bind(x, f(x)))")
        told = news(bench, [CONST])
        self.assertEqual([step[4]["a"] for step in told], [bench.bank.find(read(text)) for text in ("f(y)", "bind(x, f(x))")])

    def test_asks_by_numbers(self):
        bench = bench_of("f(x)", "f(4)", "y = 5", "f(y)")
        self.assertEqual([step[4]["a"] for step in news(bench, [KNOWN])], [bench.bank.find(num(4)), bench.bank.find(read("y"))])

    def test_what_is_learnt_counts(self):
        # x is neg(3), so it is below nought, though no number stands there yet.
        bench = bench_of("neg(3) = x", "abs(x)")
        self.assertEqual([step[0][1] for step in news(bench, [SHORT, OTHER]) if step[0] != SUM], ["other"])

    def test_by_the_words_of_the_point(self):
        source = random.Random(17)
        rules = [SWAP, TURN, BACK, NOUGHT, ONE, SPREAD, DOUBLE, SHORT, OTHER, CONST, KNOWN]
        many = 0
        for _ in range(60):
            bench = Bench(400)
            trees = [read(text) for text in ("x", "y", "0", "1", "-3")]
            for _ in range(9):
                word, arms = source.choice([("plus", 2), ("times", 2), ("neg", 1), ("abs", 1), ("bind", 2), ("f", 1)])
                trees.append(("of", word, tuple(source.choice(trees) for _ in range(arms))))
                bench.put(trees[-1])
            for _ in range(source.randint(0, 2)):
                bench.tell(source.choice(trees), source.choice(trees))
            told = news(bench, rules)
            self.assertEqual(told, slow_news(bench, rules))
            many += len(told)
        self.assertGreater(many, 150)


class Turns(Refusing, unittest.TestCase):
    def test_no_news_no_turn(self):
        bench = bench_of("x")
        self.assertEqual(turn(bench, [SWAP], 5), 0)
        self.assertEqual(state(bench), ([("name", "x")], 400, []))

    def test_left_then_right_and_an_edge(self):
        bench = bench_of("plus(x, y)")
        self.assertEqual(turn(bench, [SWAP], 1), 1)
        self.assertEqual(bench.bank.terms, [("name", "x"), ("name", "y"), ("of", "plus", (0, 1)), ("of", "plus", (1, 0))])
        self.assertEqual(bench.edges, [(2, 3, 1, ("rule", "swap", (("a", 0), ("b", 1))))])

    def test_left_is_put_with_leads(self):
        # x y z plus(y, z) with y the same as x: left is plus(x, z), which isn't held yet.
        bench = bench_of("x = y", "plus(y, z)")
        self.assertEqual(turn(bench, [SWAP], 9), 1)
        self.assertEqual(bench.bank.terms[3:], [("of", "plus", (1, 2)), ("of", "plus", (0, 2)), ("of", "plus", (2, 0))])
        self.assertEqual(bench.edges[1:], [(4, 5, 1, ("rule", "swap", (("a", 0), ("b", 2))))])

    def test_a_sum(self):
        bench = bench_of("x = 3", "neg(x)")
        self.assertEqual(turn(bench, [], 100), 1)
        self.assertEqual(bench.bank.terms[2:], [("of", "neg", (0,)), ("of", "neg", (1,)), ("num", -3)])
        self.assertEqual(bench.edges[1:], [(3, 4, 1, SUM)])

    def test_weights_of_rules(self):
        rule = read_rule("t 1000000000000: f(?a) = ?a")
        bench = bench_of("f(x)")
        turn(bench, [rule], 1)
        self.assertEqual(bench.edges, [(1, 0, 10 ** 12, ("rule", "t", (("a", 0),)))])

    def test_the_first_size_of_the_news_at_the_begin(self):
        for size in (1, 2, 3, 4, 1000):
            bench = bench_of("plus(x, y)", "plus(y, z)", "plus(z, x)")
            begin = news(bench, [SWAP])
            self.assertEqual(len(begin), 3)
            self.assertEqual(turn(bench, [SWAP], size), min(size, 3))
            self.assertEqual([edge[3] for edge in bench.edges], [step[0] for step in begin[:size]])

    def test_what_the_turn_itself_makes_known_is_done_all_the_same(self):
        # plus(x, y) and plus(y, x): the second step tells nothing new once the first is done.
        bench = bench_of("plus(x, y)", "plus(y, x)")
        self.assertEqual(turn(bench, [SWAP], 1000), 2)
        self.assertEqual([edge[:2] for edge in bench.edges], [(2, 3), (3, 2)])
        self.assertEqual(turn(bench, [SWAP], 1000), 0)

    def test_at_odds_nothing_is_done(self):
        bench = bench_of("plus(x, y)", "3 = 4")
        before = state(bench)
        self.assertEqual(turn(bench, [SWAP], 1000), 0)
        self.assertEqual(state(bench), before)

    def test_a_full_room_in_the_midst(self):
        # Three swaps need three terms more than the six that are held.
        for room in (6, 7, 8):
            bench = bench_of("plus(x, y)", "plus(y, z)", "plus(z, x)", "x = x", room=room)
            before = state(bench)
            self.refused(errors.Full, turn, bench, [SWAP], 1000)
            self.assertEqual(state(bench), before)
            self.assertIsNone(bench.bank.find(read("plus(y, x)")))
            self.assertEqual(leads_of(bench), list(range(6)))
        bench = bench_of("plus(x, y)", "plus(y, z)", "plus(z, x)", room=9)
        self.assertEqual(turn(bench, [SWAP], 1000), 3)
        self.assertEqual(len(bench.bank.terms), 9)

    def test_a_full_room_that_a_lesser_size_does_not_meet(self):
        bench = bench_of("plus(x, y)", "plus(y, z)", "plus(z, x)", room=8)
        self.assertEqual(turn(bench, [SWAP], 2), 2)
        before = state(bench)
        self.refused(errors.Full, turn, bench, [SWAP], 2)
        self.assertEqual(state(bench), before)

    def test_room_for_left_but_not_for_right(self):
        bench = bench_of("x = y", "plus(y, z)", room=5)
        before = state(bench)
        self.refused(errors.Full, turn, bench, [SWAP], 1)
        self.assertEqual(state(bench), before)


class Growing(unittest.TestCase):
    def test_rest(self):
        bench = bench_of("plus(x, y)")
        self.assertEqual(grow(bench, [SWAP], 100), ("rest", 1))
        self.assertEqual(grow(bench, [SWAP], 100), ("rest", 0))
        self.assertEqual(grow(Bench(3), [], 1), ("rest", 0))
        self.assertIs(type(grow(bench, [SWAP], 100)), tuple)

    def test_open(self):
        bench = bench_of("f(x)")
        self.assertEqual(grow(bench, [ENDLESS], 3), ("open", 3))
        self.assertEqual(len(bench.edges), 3)
        # The last turn leaves it at rest, but nobody looks any more.
        bench = bench_of("plus(x, y)")
        self.assertEqual(grow(bench, [SWAP], 1), ("open", 1))
        self.assertEqual(news(bench, [SWAP]), [])

    def test_open_whatever_else_could_be_told(self):
        # The one turn puts the bench at odds.
        bench = bench_of("plus(3, 4) = 8")
        self.assertEqual(grow(bench, [], 1), ("open", 1))
        self.assertEqual(odds(bench.bank.terms, leads_of(bench)), (7, 8))
        self.assertEqual(grow(bench, [], 1), ("odds", 0))

    def test_nought_rounds(self):
        for rows in (["3 = 4"], ["x"], ["plus(x, y)"], []):
            bench = bench_of(*rows)
            before = state(bench)
            self.assertEqual(grow(bench, [SWAP], 0), ("open", 0))
            self.assertEqual(state(bench), before)

    def test_odds(self):
        bench = bench_of("plus(3, 4) = 8")
        self.assertEqual(grow(bench, [], 100), ("odds", 1))
        before = state(bench)
        self.assertEqual(grow(bench, [SWAP], 100), ("odds", 0))
        self.assertEqual(state(bench), before)

    def test_full(self):
        bench = bench_of("f(x)", room=6)
        # x f(x), then two terms each turn.
        self.assertEqual(grow(bench, [ENDLESS], 100), ("full", 2))
        self.assertEqual((len(bench.bank.terms), len(bench.edges)), (6, 2))
        before = state(bench)
        self.assertEqual(grow(bench, [ENDLESS], 100), ("full", 0))
        self.assertEqual(state(bench), before)

    def test_size_left_out_is_a_hundred(self):
        rows = [f"plus({k}, x)" for k in range(120)]
        one, other = bench_of(*rows), bench_of(*rows)
        self.assertEqual(grow(one, [SWAP], 1), ("open", 1))
        self.assertEqual(len(one.edges), 100)
        self.assertEqual(grow(other, [SWAP], 1, 101), ("open", 1))
        self.assertEqual(len(other.edges), 101)
        self.assertEqual(grow(one, [SWAP], 9), ("rest", 1))

    def test_size_one(self):
        bench = bench_of("plus(x, y)", "plus(y, z)", "plus(z, x)")
        self.assertEqual(grow(bench, [SWAP], 2, 1), ("open", 2))
        self.assertEqual(len(bench.edges), 2)
        self.assertEqual(grow(bench, [SWAP], rounds=100, size=1), ("rest", 1))

    def test_sums_over_sums(self):
        bench = bench_of("plus(times(2, 3), neg(plus(1, 1)))")
        self.assertEqual(grow(bench, [], 100), ("rest", 3))
        leads = leads_of(bench)
        self.assertEqual(leads[bench.bank.find(num(4))], leads[bench.bank.find(read("plus(times(2, 3), neg(plus(1, 1)))"))])

    def test_a_hundred_rounds(self):
        bench = bench_of("f(x)", room=400)
        self.assertEqual(grow(bench, [ENDLESS], 100, 1), ("open", 100))
        self.assertEqual(len(bench.bank.terms), 202)

    def test_every_edge_is_a_step_of_a_paper_that_holds(self):
        bench = bench_of("plus(plus(a, b), c)", "plus(c, plus(b, a))")
        grow(bench, [SWAP, TURN], 4)
        leads = leads_of(bench)
        a, b = bench.pair(read("plus(plus(a, b), c)"), read("plus(c, plus(b, a))"))
        self.assertEqual(leads[a], leads[b])
        self.assertTrue(holds(bench.bank.terms, bench.edges, paper(bench.bank.terms, leads, bench.edges, a, b), a, b))


class GrowingOn(unittest.TestCase):
    CASES = (
        (["plus(plus(a, b), c)", "plus(c, 0) = d"], [SWAP, TURN, BACK, NOUGHT]),
        (["times(2, plus(x, 3))", "x = 4"], [SPREAD, SWAP]),
        (["f(x)", "f(y)", "x = g(y)"], [ENDLESS]),
        (["plus(3, 4) = 8", "plus(x, y)"], [SWAP]),
        (["neg(neg(neg(x)))", "abs(neg(2))"], [DOUBLE, SHORT, OTHER]),
    )

    def test_n_rounds_and_then_m_are_n_and_m_at_once(self):
        for rows, rules in self.CASES:
            for size, room in ((1, 400), (3, 60), (1000, 30)):
                for n, m in ((0, 3), (1, 1), (2, 3), (3, 0), (1, 4)):
                    apart, whole = bench_of(*rows, room=room), bench_of(*rows, room=room)
                    grow(apart, rules, n, size)
                    grow(apart, rules, m, size)
                    grow(whole, rules, n + m, size)
                    self.assertEqual(state(apart), state(whole))


def shuffled_bench(source, trees, pairs):
    """A bench with all of these, put and told in some order, each told pair either way about."""
    bench = Bench(400)
    deeds = [("put", read(text)) for text in trees]
    for one, other in pairs:
        ends = [read(one), read(other)]
        source.shuffle(ends)
        deeds.append(("tell", *ends))
    source.shuffle(deeds)
    return bench, deeds


def do_deed(bench, deed):
    if deed[0] == "put":
        bench.put(deed[1])
    else:
        bench.tell(deed[1], deed[2])


class Rest(unittest.TestCase):
    CASES = (
        (["plus(a, plus(b, c))", "plus(plus(c, b), a)"], [("d", "plus(a, b)")], [SWAP, TURN, BACK]),
        (["plus(a, b)", "plus(b, 0)", "neg(neg(plus(a, b)))"], [("a", "0")], [SWAP, NOUGHT, DOUBLE]),
        (["times(2, plus(x, 3))", "plus(x, 1)"], [("x", "4")], [SPREAD, SWAP, NOUGHT]),
        (["abs(neg(2))", "abs(x)", "bind(x, f(y))"], [("neg(x)", "5"), ("y", "abs(2)")], [SHORT, OTHER, CONST, KNOWN]),
        (["plus(x, y)", "neg(plus(y, x))", "times(neg(y), 1)"], [("neg(y)", "x")], [SWAP, ONE, DOUBLE]),
    )

    def same_rest(self, one, other):
        """Each tree of the one is held by the other up to sameness, and the same ones are the same."""
        leads, others = leads_of(one), leads_of(other)
        table = marks(other.bank.terms, others)
        classes = {}
        for k in range(len(one.bank.terms)):
            lead = class_of(table, others, tree_of(one.bank.terms, k))
            self.assertIsNotNone(lead)
            self.assertEqual(classes.setdefault(leads[k], lead), lead)
        self.assertEqual(len(set(classes.values())), len(classes))
        self.assertEqual(len(classes), len(set(others)))

    def test_two_benches_that_come_to_rest(self):
        source = random.Random(19)
        for trees, pairs, rules in self.CASES:
            told = []
            for attempt in range(6):
                bench, deeds = shuffled_bench(source, trees, pairs)
                rules = source.sample(rules, len(rules))
                # Some deeds come only behind some growing.
                late = source.randrange(len(deeds)) if attempt else 0
                for deed in deeds[late:]:
                    do_deed(bench, deed)
                grow(bench, rules, source.randint(0, 3), source.choice([1, 2, 1000]))
                for deed in deeds[:late]:
                    do_deed(bench, deed)
                self.assertEqual(grow(bench, rules, 100, source.choice([3, 10, 1000]))[0], "rest")
                told.append(bench)
            for other in told[1:]:
                self.same_rest(told[0], other)
                self.same_rest(other, told[0])

    def test_rest_is_rest_for_every_order_of_the_rules(self):
        bench = bench_of("plus(a, plus(b, c))")
        self.assertEqual(grow(bench, [SWAP, TURN, BACK], 100)[0], "rest")
        for rules in itertools.permutations([SWAP, TURN, BACK]):
            self.assertEqual(news(bench, list(rules)), [])


class Kept(unittest.TestCase):
    def test_what_is_handed_in_stays_as_it_was(self):
        rules = [SWAP, SHORT, NOUGHT]
        before = [(rule.title, rule.weight, rule.left, rule.right, list(rule.asks)) for rule in rules]
        bench = bench_of("plus(x, 0)", "abs(3)")
        held = state(bench)
        told = news(bench, rules)
        self.assertEqual(state(bench), held)
        kept = copy.deepcopy(told)
        turn(bench, rules, 2), grow(bench, rules, 3)
        self.assertEqual([(rule.title, rule.weight, rule.left, rule.right, rule.asks) for rule in rules], before)
        self.assertEqual(len(rules), 3)
        self.assertEqual(told, kept)

    def test_what_is_told_is_the_askers_own(self):
        bench = bench_of("plus(x, y)")
        told = news(bench, [SWAP])
        told[0][4].clear()
        told.clear()
        self.assertEqual(news(bench, [SWAP]), [swap_step(0, 1)])

    def test_a_room_that_was_refused_can_be_used_on(self):
        for terms, edges in random_cases(5):
            bench = Bench(len(terms))
            for k in range(len(terms)):
                bench.put(tree_of(terms, k))
            bench.edges.extend(edges)
            before = state(bench)
            grow(bench, [read_rule("t 1: f(?a) = q(r(?a), s(?a), ?a)")], 3)
            self.assertEqual(state(bench), before)
            self.assertEqual(leads_of(bench), closed(terms, edges))


if __name__ == "__main__":
    unittest.main()
