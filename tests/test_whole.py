"""What the document promises over the whole program, looked at from sheets."""

import itertools
import random
import unittest

from samewise.papers import holds
from samewise.run import run
from samewise.sheet import read_sheet
from samewise.texts import read, shown

# All of these are true of whole numbers, with abs and sq as their words say and bind(x, t) as t with nought for x.
RULES = (
    "swap 1: plus(?a, ?b) = plus(?b, ?a)",
    "turn 2: plus(plus(?a, ?b), ?c) = plus(?a, plus(?b, ?c))",
    "cross 1: times(?a, ?b) = times(?b, ?a)",
    "nought 3: plus(?a, 0) = ?a",
    "none 3: times(?a, 0) = 0",
    "one 3: times(?a, 1) = ?a",
    "spread 5: times(?a, plus(?b, ?c)) = plus(times(?a, ?b), times(?a, ?c))",
    "double 1: neg(neg(?a)) = ?a",
    "cancel 4: plus(?a, neg(?a)) = 0",
    "square 2: sq(?a) = times(?a, ?a)",
    "keep 1: abs(?a) = ?a if sign ?a 0+",
    "flip 1: abs(?a) = neg(?a) if sign ?a -0",
    "const 1: bind(x, ?a) = ?a if free ?a x",
    "odd 6: times(?a, ?b) = sq(?a) if number ?a, number ?b, sign ?a 0, sign ?b 0",
)
SIGNS = {-1: "-", 0: "0", 1: "+"}
VALUES = [dict(zip("xyz", row)) for row in itertools.product((-2, 0, 3), repeat=3)]


def value(tree, names):
    if tree[0] == "num":
        return tree[1]
    if tree[0] == "name":
        return names[tree[1]]
    if tree[1] == "bind":
        return value(tree[2][1], {**names, tree[2][0][1]: 0})
    arms = [value(arm, names) for arm in tree[2]]
    deeds = {
        "plus": lambda a, b: a + b, "times": lambda a, b: a * b, "neg": lambda a: -a, "abs": abs, "sq": lambda a: a * a,
    }
    return deeds[tree[1]](*arms)


def random_tree(source, deep):
    if deep == 1 or source.random() < 0.2:
        return source.choice([("name", "x"), ("name", "y"), ("name", "z"), ("num", 0), ("num", 1), ("num", -2)])
    word, arms = source.choice([("plus", 2), ("times", 2), ("neg", 1), ("abs", 1), ("sq", 1), ("bind", 2)])
    if word == "bind":
        return ("of", "bind", (("name", "x"), random_tree(source, deep - 1)))
    return ("of", word, tuple(random_tree(source, deep - 1) for _ in range(arms)))


def variant(source, tree):
    """A tree of the same value, whatever the names stand for."""
    if tree[0] == "of" and tree[1] != "bind":
        arms = [variant(source, arm) for arm in tree[2]]
        if tree[1] in ("plus", "times") and source.random() < 0.5:
            arms.reverse()
        tree = ("of", tree[1], tuple(arms))
    return ("of", "plus", (tree, ("num", 0))) if source.random() < 0.15 else tree


def random_tell(source):
    """A row that tells something true, whatever the names stand for."""
    text = shown(random_tree(source, 2))
    return "tell " + source.choice([
        f"plus({text}, 0) = {text}", f"times({text}, 1) = {text}", f"neg(neg({text})) = {text}",
        f"plus({text}, neg({text})) = 0", f"sq({text}) = times({text}, {text})", f"abs({text}) = abs(neg({text}))",
    ])


def random_sheet(source):
    """Rules, true tells and trees, with a growing behind them; told with the trees."""
    trees = [random_tree(source, 3) for _ in range(3)]
    trees.append(variant(source, trees[0]))
    rows = ["rule " + text for text in source.sample(RULES, source.randint(2, 7))]
    rows += [random_tell(source) for _ in range(source.randint(0, 3))]
    rows += ["put " + shown(tree) for tree in trees]
    source.shuffle(rows)
    rows.append(f"grow {source.randint(0, 4)} {source.choice([1, 5, 1000])}")
    return rows, trees


class Truth(unittest.TestCase):
    def true_of(self, tree, answer):
        """An answer by sign, number or names, held against the tree's values."""
        values = [value(tree, names) for names in VALUES]
        if answer[0] == "sign":
            for one in values:
                self.assertIn(SIGNS[(one > 0) - (one < 0)], answer[1])
        if answer[0] == "number":
            self.assertLessEqual(len(answer[1]), 1)
            self.assertTrue(all([one] == answer[1] for one in values if answer[1]))
        if answer[0] == "names":
            for word in "xyz":
                if word not in answer[1]:
                    for names, one in zip(VALUES, values):
                        self.assertEqual(value(tree, {**names, word: 5}), one)

    def test_facts_are_true_of_numbers(self):
        source = random.Random(61)
        told = 0
        for _ in range(60):
            rows, trees = random_sheet(source)
            for tree in trees:
                rows += [f"{word} {shown(tree)}" for word in ("sign", "number", "names")]
            answers = run("\n".join(rows), 400)[1:]
            for place, answer in enumerate(answers):
                self.assertNotEqual(answer[0], "refused")
                self.true_of(trees[place // 3], answer)
                told += answer[1] not in ("-0+", [])
        self.assertGreater(told, 200)

    def test_a_true_bench_is_never_at_odds(self):
        source = random.Random(62)
        for _ in range(60):
            rows, _ = random_sheet(source)
            self.assertIn(run("\n".join(rows + ["grow 3 100"]), 400)[1][1], ("rest", "open", "full"))

    def test_what_is_the_same_has_the_same_values_and_a_paper_that_holds(self):
        source = random.Random(63)
        joined = 0
        for _ in range(40):
            rows, trees = random_sheet(source)
            pairs = list(itertools.combinations(trees, 2)) + [(tree, tree) for tree in trees]
            for one, other in pairs:
                rows += [f"same {shown(one)} = {shown(other)}", f"why {shown(one)} = {shown(other)}"]
            answers = run("\n".join(rows), 400)[1:]
            for (one, other), same, why in zip(pairs, answers[::2], answers[1::2]):
                if not same[1]:
                    self.assertEqual(why, ("refused", "apart"))
                    continue
                for names in VALUES:
                    self.assertEqual(value(one, names), value(other, names))
                word, book, terms, edges = why
                self.assertEqual(word, "why")
                self.assertTrue(holds(terms, edges, book, book[-1][0], book[-1][1]))
                joined += one != other
        self.assertGreater(joined, 5)

    def test_what_is_taken_out_is_the_same_as_the_tree_asked_for(self):
        source = random.Random(64)
        unlike = 0
        for _ in range(40):
            rows, trees = random_sheet(source)
            rows += [f"cost {key} {source.randint(1, 9)}" for key in ("plus", "times", "#", "@")]
            asked = [f"{word} {shown(tree)}" for tree in trees for word in ("cheap", "shared")]
            answers = run("\n".join(rows + asked), 400)[1:]
            taken = [(tree, answer) for tree, answer in zip([tree for tree in trees for _ in "ab"], answers)
                     if answer[0] != "refused"]
            again = run("\n".join(rows + asked + [f"same {shown(tree)} = {answer[2]}" for tree, answer in taken]), 400)
            self.assertEqual(again[1 + len(answers):], [("same", True)] * len(taken))
            for tree, answer in taken:
                unlike += answer[2] != shown(tree)
                for names in VALUES:
                    self.assertEqual(value(read(answer[2]), names), value(tree, names))
        self.assertGreater(unlike, 40)

    def test_sharing_is_never_dearer(self):
        source = random.Random(65)
        for _ in range(30):
            rows, trees = random_sheet(source)
            for tree in trees:
                rows += ["cheap " + shown(tree), "shared " + shown(tree)]
            answers = run("\n".join(rows), 400)[1:]
            for cheap, shared in zip(answers[::2], answers[1::2]):
                if shared[0] == "shared":
                    self.assertLessEqual(shared[1], cheap[1])


class GrowingOn(unittest.TestCase):
    def test_n_rounds_and_then_m_are_n_and_m_at_once(self):
        source = random.Random(66)
        for _ in range(40):
            rows, _ = random_sheet(source)
            n, m, size, room = source.randint(0, 3), source.randint(0, 3), source.choice([1, 4, 1000]), source.choice([40, 120])
            apart = run("\n".join(rows[:-1] + [f"grow {n} {size}", f"grow {m} {size}", "why x = x"]), room)
            whole = run("\n".join(rows[:-1] + [f"grow {n + m} {size}", "why x = x"]), room)
            self.assertEqual(apart[-1], whole[-1])

    def test_the_same_sheet_tells_the_same_terms_and_edges(self):
        source = random.Random(67)
        for _ in range(10):
            rows, _ = random_sheet(source)
            text = "\n".join(rows + ["why x = x"])
            self.assertEqual(run(text, 400), run(text, 400))


class Rest(unittest.TestCase):
    def answers(self, rows, trees, size):
        """The word that a long growing ends with, and then all that is told of the trees."""
        asked = [f"grow 100 {size}"]
        asked += [f"same {shown(one)} = {shown(other)}" for one, other in itertools.combinations(trees, 2)]
        asked += [f"{word} {shown(tree)}" for tree in trees for word in ("sign", "number", "names", "cheap")]
        told = run("\n".join(rows + asked), 400)
        word = told[len(told) - len(asked)][1]
        # Names come in the order of held, and of equally cheap members any one may be taken.
        return word, [
            answer[:2] if answer[0] == "cheap" else (answer[0], sorted(answer[1])) if answer[0] == "names" else answer
            for answer in told[len(told) - len(asked) + 1:]
        ]

    def test_two_sheets_that_come_to_rest(self):
        source = random.Random(68)
        rested = 0
        for _ in range(60):
            rows, trees = random_sheet(source)
            other = list(rows[:-1])
            source.shuffle(other)
            one_word, one = self.answers(rows, trees, 1000)
            other_word, two = self.answers(other, trees, source.choice([2, 7, 50]))
            if one_word == other_word == "rest":
                rested += 1
                self.assertEqual(one, two)
            self.assertNotIn("odds", (one_word, other_word))
        self.assertGreater(rested, 20)

    def test_a_false_tell_is_at_odds_for_both_or_neither_rests(self):
        told = [
            run("put plus(x, y)\ntell x = 2\ntell y = 3\ntell plus(x, y) = 6\ngrow 9 9"),
            run("tell plus(x, y) = 6\ntell y = 3\ngrow 2 1\ntell x = 2\ngrow 9 1"),
        ]
        self.assertEqual([answers[-1][:2] for answers in told], [("grow", "odds"), ("grow", "odds")])


class Bounds(unittest.TestCase):
    def test_a_sheet_of_two_hundred_rows(self):
        rows = ["rule " + text for text in RULES]
        source = random.Random(69)
        rows += ["put " + shown(random_tree(source, 2)) for _ in range(100)]
        rows += ["grow 3 100"]
        rows += ["cheap " + shown(random_tree(source, 2)) for _ in range(200 - len(rows))]
        self.assertEqual(len(read_sheet("\n".join(rows))), 200)
        answers = run("\n".join(rows), 400)
        self.assertEqual(len(answers), 200 - len(RULES) - 100)


if __name__ == "__main__":
    unittest.main()
