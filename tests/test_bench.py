"""Point 31, and points 1 and 5 as far as they speak of it: a bench and its deeds."""

import copy
import unittest

from samples import Refusing, name
from samewise import errors
from samewise.bank import Bank
from samewise.bench import Bench, leads_of
from samewise.texts import read

TOLD = ("told",)


def state(bench):
    return (list(bench.bank.terms), bench.bank.room, list(bench.edges))


class Deeds(unittest.TestCase):
    def test_a_new_bench(self):
        bench = Bench(7)
        self.assertIsInstance(bench.bank, Bank)
        self.assertEqual(state(bench), ([], 7, []))
        self.assertEqual(leads_of(bench), [])

    def test_put(self):
        bench = Bench(7)
        self.assertEqual([bench.put(read(text)) for text in ("f(x)", "x", "g(f(x), y)", "f(x)")], [1, 0, 3, 1])
        self.assertEqual(bench.bank.terms, [("name", "x"), ("of", "f", (0,)), ("name", "y"), ("of", "g", (1, 2))])
        self.assertEqual(bench.edges, [])

    def test_pair(self):
        bench = Bench(7)
        told = bench.pair(read("g(y)"), read("f(x)"))
        self.assertEqual(told, (1, 3))
        self.assertIs(type(told), tuple)
        self.assertEqual(bench.bank.terms, [("name", "y"), ("of", "g", (0,)), ("name", "x"), ("of", "f", (2,))])
        self.assertEqual(bench.pair(read("f(x)"), read("f(x)")), (3, 3))
        self.assertEqual(bench.pair(read("f(x)"), read("y")), (3, 0))
        self.assertEqual(bench.edges, [])

    def test_tell(self):
        bench = Bench(7)
        self.assertEqual(bench.tell(read("f(x)"), read("y")), 0)
        self.assertEqual(bench.tell(read("y"), read("x"), 10 ** 12), 1)
        self.assertEqual(bench.tell(one=read("y"), other=read("3"), weight=5), 2)
        self.assertEqual(bench.edges, [(1, 2, 1, TOLD), (2, 0, 10 ** 12, TOLD), (2, 3, 5, TOLD)])
        self.assertEqual(bench.bank.terms, [("name", "x"), ("of", "f", (0,)), ("name", "y"), ("num", 3)])

    def test_a_tree_told_to_be_itself_and_a_pair_told_twice(self):
        bench = Bench(7)
        self.assertEqual([bench.tell(read("f(x)"), read("f(x)")) for _ in range(2)], [0, 1])
        self.assertEqual(bench.tell(read("x"), read("f(x)")), 2)
        self.assertEqual(bench.edges, [(1, 1, 1, TOLD), (1, 1, 1, TOLD), (0, 1, 1, TOLD)])

    def test_leads(self):
        bench = Bench(20)
        bench.put(read("g(f(x), f(y))"))
        self.assertEqual(leads_of(bench), [0, 1, 2, 3, 4])
        bench.tell(name("y"), name("x"))
        self.assertEqual(leads_of(bench), [0, 1, 0, 1, 4])
        bench.tell(read("f(x)"), name("x"))
        self.assertEqual(leads_of(bench), [0, 0, 0, 0, 4])

    def test_two_benches_have_nothing_in_common(self):
        one, other = Bench(7), Bench(7)
        one.tell(name("x"), name("y"))
        self.assertEqual(state(other), ([], 7, []))


class Room(Refusing, unittest.TestCase):
    def test_put(self):
        bench = Bench(3)
        bench.tell(name("x"), name("y"))
        before = state(bench)
        self.refused(errors.Full, bench.put, read("g(f(x))"))
        self.assertEqual(state(bench), before)
        self.assertEqual(bench.put(read("f(x)")), 2)

    def test_pair_where_the_first_would_have_fitted(self):
        for deed in ("pair", "tell"):
            bench = Bench(5)
            bench.tell(name("x"), name("y"))
            before = state(bench)
            self.refused(errors.Full, getattr(bench, deed), read("f(x)"), read("g(h(k(x)))"))
            self.assertEqual(state(bench), before)
            self.assertIsNone(bench.bank.find(read("f(x)")))

    def test_pair_where_the_first_does_not_fit(self):
        for deed in ("pair", "tell"):
            bench = Bench(3)
            bench.tell(name("x"), name("y"))
            before = state(bench)
            self.refused(errors.Full, getattr(bench, deed), read("f(g(x))"), read("x"))
            self.assertEqual(state(bench), before)

    def test_just_enough(self):
        bench = Bench(5)
        self.assertEqual(bench.pair(read("f(x)"), read("g(h(x), x)")), (1, 3))
        self.assertEqual(bench.tell(read("g(h(x), x)"), read("y")), 0)
        before = state(bench)
        self.refused(errors.Full, bench.tell, read("x"), read("z"))
        self.assertEqual(state(bench), before)
        self.assertEqual(bench.tell(read("x"), read("y")), 1)

    def test_one_lacking(self):
        for room in range(1, 5):
            bench = Bench(room)
            self.refused(errors.Full, bench.tell, read("f(x, y)"), read("f(y, g(x))"))
            self.refused(errors.Full, bench.pair, read("f(x, y)"), read("f(y, g(x))"))
            self.assertEqual(state(bench), ([], room, []))
        self.assertEqual(Bench(5).pair(read("f(x, y)"), read("f(y, g(x))")), (2, 4))


class Kept(unittest.TestCase):
    def test_what_is_handed_in_stays_as_it_was(self):
        trees = [read("f(x, g(y))"), read("g(3)")]
        before = copy.deepcopy(trees)
        bench = Bench(20)
        bench.put(trees[0]), bench.pair(*trees), bench.tell(*trees)
        self.assertEqual(trees, before)

    def test_told_leads_are_the_askers_own_and_asking_changes_nothing(self):
        bench = Bench(20)
        bench.tell(read("f(x)"), read("x"))
        before = state(bench)
        leads = leads_of(bench)
        leads.clear()
        self.assertEqual(leads_of(bench), [0, 0])
        self.assertEqual(state(bench), before)


if __name__ == "__main__":
    unittest.main()
