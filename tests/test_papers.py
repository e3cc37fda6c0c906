"""Points 18, 20 and 21: books, when one holds, and papers."""

import copy
import random
import unittest

from samples import Refusing, banked, edge, random_cases
from samewise import errors
from samewise.closed import closed
from samewise.lengths import lengths
from samewise.papers import holds, paper

# x y f(x) f(y) g(f(x), x, x) g(f(y), y, x) z
TERMS = banked("x", "y", "f(x)", "f(y)", "g(f(x), x, x)", "g(f(y), y, x)", "z").terms
EDGES = [edge(1, 0, 5), edge(6, 4, 3), edge(6, 6, 2), edge(0, 1, 9)]
# z to g(f(y), y, x), by the told edge and then by likeness, which needs the two rows above.
BOOK = [
    (0, 1, 5, [("edge", 0, 1, 0)]),
    (2, 3, 6, [("like", 2, 3)]),
    (6, 5, 15, [("edge", 6, 4, 1), ("like", 4, 5)]),
]
GREAT = 10 ** 200


def slow_holds(terms, edges, book, a, b):
    """The words of point 20, one clause behind the other."""
    ends = [row[:2] for row in book]
    numbers = range(len(terms))
    if not book or ends[-1] != (a, b) or len(set(ends)) < len(ends):
        return False
    for place, (first, last, length, steps) in enumerate(book):
        above = {row[:2]: row[2] for row in book[:place]}
        stops = [first] + [step[2] for step in steps]
        if any(stop not in numbers for stop in stops + [last]) or stops[-1] != last:
            return False
        if [step[1] for step in steps] != stops[:-1]:
            return False
        found = [slow_length(terms, edges, step, above) for step in steps]
        if None in found or sum(found) != length:
            return False
    return True


def slow_length(terms, edges, step, above):
    if step[0] == "edge":
        if step[3] not in range(len(edges)) or sorted(step[1:3]) != sorted(edges[step[3]][:2]):
            return None
        return edges[step[3]][2]
    one, other = terms[step[1]], terms[step[2]]
    if step[1] == step[2] or (one[0], other[0]) != ("of", "of") or one[1] != other[1] or len(one[2]) != len(other[2]):
        return None
    pairs = [pair for pair in zip(one[2], other[2]) if pair[0] != pair[1]]
    return 1 + sum(above[pair] for pair in pairs) if all(pair in above for pair in pairs) else None


class Books(unittest.TestCase):
    def holding(self, book, a=6, b=5, terms=TERMS, edges=EDGES):
        self.assertIs(holds(terms, edges, book, a, b), True, book)
        self.assertTrue(slow_holds(terms, edges, book, a, b))

    def failing(self, book, a=6, b=5, terms=TERMS, edges=EDGES):
        self.assertIs(holds(terms, edges, book, a, b), False, book)
        self.assertFalse(slow_holds(terms, edges, book, a, b))

    def test_the_numbers_of_the_terms(self):
        self.assertEqual(TERMS[4:6], [("of", "g", (2, 0, 0)), ("of", "g", (3, 1, 0))])
        self.holding(BOOK)

    def test_no_row(self):
        self.failing([])
        self.failing([], 0, 0)

    def test_the_last_row_has_the_ends_asked_for(self):
        for a, b in ((5, 6), (6, 4), (4, 5), (0, 1), (2, 3), (6, 6), (-1, 5), (6, -2)):
            self.failing(BOOK, a, b)
        self.holding(BOOK[:2], 2, 3)
        self.holding(BOOK[:1], 0, 1)
        self.failing(BOOK + [(0, 0, 0, [])])
        self.holding(BOOK + [(0, 0, 0, [])], 0, 0)

    def test_rows_that_nobody_needs(self):
        self.holding([(3, 3, 0, []), (1, 0, 9, [("edge", 1, 0, 3)])] + BOOK)

    def test_no_two_rows_with_the_same_ends_in_the_same_order(self):
        self.failing([BOOK[0]] + BOOK)
        self.failing([(0, 1, 9, [("edge", 0, 1, 3)])] + BOOK)
        self.failing(BOOK[:2] + [BOOK[0], BOOK[2]])
        self.holding([(1, 0, 5, [("edge", 1, 0, 0)])] + BOOK)
        self.failing([(6, 5, 15, [])] + BOOK)
        self.failing([(3, 3, 0, []), (3, 3, 0, [])] + BOOK)

    def test_the_ends_of_a_row_are_numbers_of_terms(self):
        for k in (-1, -7, 7, 8, GREAT, -GREAT):
            self.failing([(k, k, 0, [])] + BOOK)
            self.failing([(k, k, 0, [])], k, k)
            self.failing([(k, 1, 5, [("edge", k, 1, 0)])] + BOOK[1:])
            self.failing([(0, k, 5, [("edge", 0, 1, 0)])] + BOOK)

    def test_a_number_below_nought_does_not_count_from_the_end(self):
        many = len(TERMS)
        self.failing(BOOK[:2] + [(6 - many, 5 - many, 15, [("edge", 6 - many, 4 - many, 1), ("like", 4 - many, 5 - many)])],
                     6 - many, 5 - many)
        self.failing(BOOK[:2] + [(6, 5, 15, [("edge", 6, 4, 1), ("like", 4, 5 - many)])])
        self.failing([(2 - many, 3 - many, 1, [("like", 2 - many, 3 - many)])], 2 - many, 3 - many)
        self.failing([BOOK[0], (2 - many, 3, 6, [("like", 2 - many, 3)])], 2 - many, 3)
        self.failing([BOOK[0], (2, 3 - many, 6, [("like", 2, 3 - many)])], 2, 3 - many)

    def test_the_ends_of_a_step_are_numbers_of_terms(self):
        for k in (-1, -3, 7, GREAT, -GREAT):
            self.failing(BOOK[:2] + [(6, 5, 15, [("edge", 6, k, 1), ("like", k, 5)])])
            self.failing(BOOK[:2] + [(6, 5, 15, [("edge", k, 4, 1), ("like", 4, 5)])])
            self.failing(BOOK[:2] + [(6, 5, 15, [("edge", 6, 4, 1), ("like", 4, k)])])
            self.failing(BOOK[:2] + [(6, 5, 15, [("edge", 6, 4, 1), ("like", k, 5)])])

    def test_steps_go_on_from_one_another(self):
        self.failing(BOOK[:2] + [(6, 5, 12, [("like", 4, 5)])])
        self.failing(BOOK[:2] + [(6, 5, 3, [("edge", 6, 4, 1)])])
        self.failing(BOOK[:2] + [(6, 5, 15, [("like", 4, 5), ("edge", 6, 4, 1)])])
        self.failing(BOOK[:2] + [(6, 5, 15, [("edge", 4, 6, 1), ("like", 4, 5)])])
        self.failing(BOOK[:2] + [(6, 5, 15, [("edge", 6, 4, 1), ("like", 5, 4)])])
        self.failing(BOOK[:2] + [(6, 5, 21, [("edge", 6, 4, 1), ("like", 4, 5), ("edge", 6, 4, 1), ("edge", 4, 6, 1)])])

    def test_without_a_step_the_ends_are_alike(self):
        self.holding([(3, 3, 0, [])], 3, 3)
        self.failing([(3, 3, 1, [])], 3, 3)
        self.failing([(3, 3, -1, [])], 3, 3)
        self.failing([(0, 1, 0, [])], 0, 1)
        self.failing([(0, 1, 5, [])], 0, 1)

    def test_places_of_edges(self):
        self.holding([(0, 1, 9, [("edge", 0, 1, 3)])], 0, 1)
        for place in (1, 2, 4, 5, GREAT, -1, -4, -GREAT):
            self.failing([(0, 1, 5, [("edge", 0, 1, place)])], 0, 1)
            self.failing([(0, 1, 9, [("edge", 0, 1, place)])], 0, 1)
        self.failing([(0, 1, 5, [("edge", 0, 1, 0)])], 0, 1, edges=[])

    def test_the_ends_of_an_edge(self):
        self.holding([(1, 0, 5, [("edge", 1, 0, 0)])], 1, 0)
        self.holding([(4, 6, 3, [("edge", 4, 6, 1)])], 4, 6)
        for a, b in ((0, 0), (1, 1), (0, 2), (2, 1), (0, 6), (5, 1)):
            self.failing([(a, b, 5, [("edge", a, b, 0)])], a, b)

    def test_an_edge_from_a_term_to_itself(self):
        self.holding([(6, 6, 2, [("edge", 6, 6, 2)])], 6, 6)
        self.failing([(6, 6, 0, [("edge", 6, 6, 2)])], 6, 6)
        self.holding([(6, 4, 7, [("edge", 6, 6, 2)] * 2 + [("edge", 6, 4, 1)])], 6, 4)
        self.failing([(6, 6, 3, [("edge", 6, 6, 1)])], 6, 6)
        self.failing([(4, 4, 3, [("edge", 4, 4, 1)])], 4, 4)

    def test_to_and_fro(self):
        self.holding([(0, 0, 14, [("edge", 0, 1, 0), ("edge", 1, 0, 3)])], 0, 0)
        self.failing([(0, 0, 0, [("edge", 0, 1, 0), ("edge", 1, 0, 3)])], 0, 0)

    def test_the_length_is_the_sum(self):
        for length in (14, 16, 0, -15, 10, 9, 20, GREAT, -GREAT):
            self.failing(BOOK[:2] + [(6, 5, length, BOOK[2][3])])
        for length in (4, 6, 0, 9, -5, GREAT, -GREAT):
            self.failing([(0, 1, length, BOOK[0][3])] + BOOK[1:])
            # Also where the rows below are told to fit it.
            self.failing([(0, 1, length, BOOK[0][3]), (2, 3, length + 1, [("like", 2, 3)])], 2, 3)

    def test_a_like_step_needs_its_rows_above_its_own(self):
        self.failing(BOOK[1:])
        self.failing([BOOK[0], BOOK[2]])
        self.failing([BOOK[1], BOOK[0], BOOK[2]])
        self.failing([BOOK[1], BOOK[0]], 0, 1)
        self.failing([BOOK[0], BOOK[2], BOOK[1]], 2, 3)
        # A row is not above itself.
        self.failing([(2, 3, 1, [("like", 2, 3)])], 2, 3)
        terms = banked("f(f(x))").terms
        self.failing([(1, 2, 2, [("like", 1, 2)])], 1, 2, terms=terms, edges=[])

    def test_the_rows_of_a_like_step_go_in_its_own_order(self):
        turned = (1, 0, 5, [("edge", 1, 0, 0)])
        self.failing([turned, (2, 3, 6, [("like", 2, 3)])], 2, 3)
        self.holding([turned, (3, 2, 6, [("like", 3, 2)])], 3, 2)
        self.failing([BOOK[0], (3, 2, 6, [("like", 3, 2)])], 3, 2)

    def test_the_row_used_is_the_one_told_however_long(self):
        longer = (0, 1, 19, [("edge", 0, 1, 0), ("edge", 1, 0, 0), ("edge", 0, 1, 3)])
        self.holding([longer, (2, 3, 20, [("like", 2, 3)])], 2, 3)
        self.failing([longer, (2, 3, 6, [("like", 2, 3)])], 2, 3)

    def test_a_row_counts_as_often_as_it_is_used(self):
        terms = banked("x", "y", "f(x, x)", "f(y, y)").terms
        row = (0, 1, 5, [("edge", 0, 1, 0)])
        self.holding([row, (2, 3, 11, [("like", 2, 3)])], 2, 3, terms=terms, edges=[edge(0, 1, 5)])
        self.failing([row, (2, 3, 6, [("like", 2, 3)])], 2, 3, terms=terms, edges=[edge(0, 1, 5)])

    def test_alike_numbers_count_nothing_even_with_a_row(self):
        loop = (0, 0, 10, [("edge", 0, 1, 0), ("edge", 1, 0, 0)])
        self.holding([loop] + BOOK)
        self.failing([loop] + BOOK[:2] + [(6, 5, 25, BOOK[2][3])])
        self.holding([(0, 0, 0, [])] + BOOK)

    def test_a_like_step_goes_to_another_knot_of_that_word_and_as_many_numbers(self):
        terms = banked("x", "y", "f(x)", "g(y)", "f(x, x)", "3", "f(y)", "f").terms
        row = (0, 1, 5, [("edge", 0, 1, 0)])
        edges = [edge(0, 1, 5)]
        self.holding([row, (2, 6, 6, [("like", 2, 6)])], 2, 6, terms=terms, edges=edges)
        for a, b in ((2, 3), (2, 4), (4, 2), (2, 0), (0, 2), (0, 1), (5, 0), (5, 2), (0, 5), (7, 2), (2, 7), (7, 4)):
            for length in (1, 6):
                book = [(a, b, length, [("like", a, b)])]
                self.failing(book if (a, b) == (0, 1) else [row] + book, a, b, terms=terms, edges=edges)
        for k in range(len(terms)):
            self.failing([(k, k, 1, [("like", k, k)])], k, k, terms=terms, edges=edges)

    def test_every_small_change_of_a_book(self):
        source = random.Random(6)
        outcomes = {True: 0, False: 0}
        for terms, edges in random_cases(60):
            leads = closed(terms, edges)
            pairs = [(a, b) for a in range(len(terms)) for b in range(len(terms)) if leads[a] == leads[b]]
            for a, b in source.sample(pairs, min(4, len(pairs))):
                book = paper(terms, leads, edges, a, b)
                for _ in range(12):
                    other = changed(source, book, len(terms))
                    outcome = holds(terms, edges, other, a, b)
                    self.assertIs(outcome, slow_holds(terms, edges, other, a, b), (terms, edges, other, a, b))
                    outcomes[outcome] += 1
        self.assertGreater(outcomes[True], 30)
        self.assertGreater(outcomes[False], 300)


def changed(source, book, many):
    """A book with one thing changed: a row moved, dropped or doubled, or one number told otherwise."""
    rows = [[row[0], row[1], row[2], [list(step) for step in row[3]]] for row in book]
    row = source.choice(rows)
    deed = source.randrange(6)
    other = source.choice([-1, 0, 1, source.randrange(many), many, many - 1, -many, 10 ** 30])
    if deed == 0:
        source.shuffle(rows)
    elif deed == 1:
        rows.remove(row)
    elif deed == 2:
        rows.insert(source.randrange(len(rows) + 1), row)
    elif deed == 3 or not row[3]:
        row[source.randrange(3)] = other
    elif deed == 4:
        step = source.choice(row[3])
        step[source.randrange(1, len(step))] = other
    else:
        row[3].insert(source.randrange(len(row[3]) + 1), source.choice(row[3]))
    return [(row[0], row[1], row[2], [tuple(step) for step in row[3]]) for row in rows]


class Papers(Refusing, unittest.TestCase):
    def test_the_plain_case(self):
        leads = closed(TERMS, EDGES)
        self.assertEqual(sorted(paper(TERMS, leads, EDGES, 6, 5)), sorted(BOOK))
        self.assertEqual(paper(TERMS, leads, EDGES, 6, 5)[-1], BOOK[2])

    def test_from_a_term_to_itself(self):
        leads = closed(TERMS, EDGES)
        for k in range(len(TERMS)):
            self.assertEqual(paper(TERMS, leads, EDGES, k, k), [(k, k, 0, [])])

    def test_apart(self):
        leads = closed(TERMS, EDGES)
        self.refused(errors.Apart, paper, TERMS, leads, EDGES, 0, 2)
        self.refused(errors.Apart, paper, TERMS, leads, EDGES, 4, 1)
        self.refused(errors.Apart, paper, TERMS, closed(TERMS, []), [], 2, 3)

    def test_every_paper_holds_with_least_lengths_in_each_row(self):
        for terms, edges in random_cases(70):
            leads = closed(terms, edges)
            least = lengths(terms, leads, edges)
            for a in range(len(terms)):
                for b in range(len(terms)):
                    if leads[a] != leads[b]:
                        self.refused(errors.Apart, paper, terms, leads, edges, a, b)
                        continue
                    book = paper(terms, leads, edges, a, b)
                    self.assertTrue(holds(terms, edges, book, a, b))
                    self.assertTrue(slow_holds(terms, edges, book, a, b))
                    self.assertTrue(all(row[2] == least[row[0]][row[1]] for row in book))

    def test_the_form_of_a_book(self):
        book = paper(TERMS, closed(TERMS, EDGES), EDGES, 6, 5)
        self.assertIs(type(book), list)
        for row in book:
            self.assertEqual([type(part) for part in row], [int, int, int, list])
            self.assertIs(type(row), tuple)
            for step in row[3]:
                self.assertIs(type(step), tuple)
                self.assertEqual(len(step), {"edge": 4, "like": 3}[step[0]])

    def test_the_lightest_edge_is_taken(self):
        terms = banked("x", "y").terms
        edges = [edge(0, 1, 10 ** 12), edge(1, 0, 1), edge(0, 0, 1), edge(0, 1, 2)]
        self.assertEqual(paper(terms, [0, 0], edges, 0, 1), [(0, 1, 1, [("edge", 0, 1, 1)])])

    def test_a_nest_that_is_deeper_than_python_likes_to_call(self):
        terms = [("name", "x"), ("name", "y")]
        while len(terms) < 400:
            terms.append(("of", "f", (len(terms) - 2,)))
        edges = [edge(0, 1, 10 ** 12)]
        leads = closed(terms, edges)
        book = paper(terms, leads, edges, 398, 399)
        self.assertEqual(book[-1], (398, 399, 10 ** 12 + 199, [("like", 398, 399)]))
        self.assertEqual(len(book), 200)
        self.assertTrue(holds(terms, edges, book, 398, 399))

    def test_lengths_that_double(self):
        terms = [("name", "x"), ("name", "y")]
        for k in range(0, 120, 2):
            terms += [("of", "f", (k, k)), ("of", "f", (k + 1, k + 1))]
        edges = [edge(1, 0, 10 ** 12)]
        book = paper(terms, closed(terms, edges), edges, 121, 120)
        self.assertEqual(book[-1][2], 2 ** 60 * 10 ** 12 + 2 ** 60 - 1)
        self.assertTrue(holds(terms, edges, book, 121, 120))


class Kept(unittest.TestCase):
    def test_what_is_handed_in_stays_as_it_was(self):
        leads = closed(TERMS, EDGES)
        before = copy.deepcopy((TERMS, leads, EDGES, BOOK))
        paper(TERMS, leads, EDGES, 6, 5), holds(TERMS, EDGES, BOOK, 6, 5), holds(TERMS, EDGES, BOOK[1:], 6, 5)
        self.assertEqual((TERMS, leads, EDGES, BOOK), before)

    def test_what_is_told_is_the_askers_own(self):
        leads = closed(TERMS, EDGES)
        first = paper(TERMS, leads, EDGES, 6, 5)
        kept = copy.deepcopy(first)
        again = paper(TERMS, leads, EDGES, 6, 5)
        for row in again:
            row[3].clear()
        again.clear()
        self.assertEqual(first, kept)
        self.assertTrue(holds(TERMS, EDGES, paper(TERMS, leads, EDGES, 6, 5), 6, 5))


if __name__ == "__main__":
    unittest.main()
