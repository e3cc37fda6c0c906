"""Points 3, 6 and 7: how trees and patterns are written, and just what is read."""

import copy
import itertools
import re
import unittest

from samples import bushy, chain, comb, name, random_patterns
from samewise import errors
from samewise.texts import read, read_pattern, shown
from samewise.trees import depth, holes, parts

OTHERS = (errors.NoRule, errors.NoRow, errors.Full, errors.Apart, errors.TooBig, errors.TooWide)

# Each kind of tree with its writing.
TREES = (
    (("num", 0), "0"),
    (("num", 7), "7"),
    (("num", -7), "-7"),
    (("num", 100), "100"),
    (("num", 10 ** 60 - 1), "9" * 60),
    (("num", 1 - 10 ** 60), "-" + "9" * 60),
    (name("x"), "x"),
    (name("abcdefgh"), "abcdefgh"),
    (name("num"), "num"),
    (("of", "neg", (name("x"),)), "neg(x)"),
    (("of", "f", (("num", -1), ("num", 0))), "f(-1, 0)"),
    (("of", "f", (name("a"), name("b"), name("c"), name("d"))), "f(a, b, c, d)"),
    (("of", "f", (("of", "f", (("of", "f", (name("f"),)),)),)), "f(f(f(f)))"),
    (("of", "plus", (("of", "g", (name("z"),)), ("num", 12))), "plus(g(z), 12)"),
)
PATTERNS = (
    (("any", "a"), "?a"),
    (("any", "abcdefgh"), "?abcdefgh"),
    (("of", "plus", (name("x"), ("of", "times", (("num", -3), ("any", "a"))))), "plus(x, times(-3, ?a))"),
    (("of", "f", (("any", "f"), ("any", "f"))), "f(?f, ?f)"),
)
WRONG = (
    "", " ", "  ", "\n", "\t", "()", "(", ")", ",", "?", "-", "--1", "-x", "- 1", "+1", "1.5", "1x", "x1", "x_y",
    " x", "x ", "x\n", "\nx", "x y", "1 2", "1-1", "x-1", "x,", ",x", "x, y", "(x)", "(x, y)", "x)", "x()", "x(())",
    "f (x)", "f( x)", "f(x )", "f(x) ", " f(x)", "f(x,y)", "f(x,  y)", "f(x , y)", "f(x ,y)", "f(x y)", "f(x,\ny)",
    "f(x,\ty)", "f(x, )", "f(x,)", "f(, x)", "f(x,, y)", "f(x, , y)", "f(x, y,)", "f(x, y", "f(x, ", "f(x,", "f(x",
    "f(", "f(x))", "f(g(x)", "f(x)y", "f(x)(y)", "f(x)g(y)", "f(x), y", "1(x)", "-1(x)", "f(x)1", "f((x))", "f[x]",
    "f{x}", "X", "Plus(x)", "pLus(x)", "f(X)", "xY", "~", "f(x; y)", "'x'", "f(x).", "x=y", "x = y", "#", "@",
    "00", "01", "007", "-0", "-00", "-01", "f(00)", "f(-0)", "f(01, x)", "1_000", "1,000", "0x1", "1e3", "-", "f(-)",
    "\u00e9", "\u0663", "\u00b2", "\uff11", "x\u00e9", "1\u0663", "f(\u00b2)", "x\u00a0", "f(x,\u00a0y)", "x\x00",
)
WRONG_HOLES = (
    "?", "??a", "? a", "?A", "?1", "?-1", "?a(x)", "a?", "a?b", "?a?b", "?(x)", "?f(x)", "f(?)", "f(?, x)", "?a ",
    " ?a", "?a, ?b", "?" + "a" * 9, "-?a", "f(x?a)", "?a1", "?\u00e9",
)


class Reading(unittest.TestCase):
    def refuses(self, reader, text):
        with self.assertRaises(errors.NoTree, msg=repr(text[:60])) as caught:
            reader(text)
        self.assertIsInstance(caught.exception, errors.SameError)
        self.assertIsInstance(caught.exception, ValueError)
        self.assertNotIsInstance(caught.exception, OTHERS)

    def refused_by_both(self, text):
        self.refuses(read, text)
        self.refuses(read_pattern, text)

    def same(self, one, other):
        """Equal, and of the same kinds all the way down: no list in a tuple's place."""
        self.assertEqual(repr(one), repr(other))

    def read_by_both(self, text, tree):
        self.same(read(text), tree)
        self.same(read_pattern(text), tree)
        self.assertEqual(shown(tree), text)


class Ordinary(Reading):
    def test_trees_are_written_and_read_back(self):
        for tree, text in TREES:
            self.read_by_both(text, tree)

    def test_patterns_are_written_and_read_back(self):
        for pattern, text in PATTERNS:
            self.assertEqual(shown(pattern), text)
            self.same(read_pattern(text), pattern)

    def test_holes_are_refused_by_read(self):
        for _, text in PATTERNS:
            self.refuses(read, text)
        self.refuses(read, "f(x, g(1, ?b), y)")

    def test_many_patterns_come_back(self):
        for pattern in random_patterns(300):
            text = shown(pattern)
            if parts(pattern) > 120:
                self.refused_by_both(text)
                continue
            self.same(read_pattern(text), pattern)
            if holes(pattern):
                self.refuses(read, text)
            else:
                self.same(read(text), pattern)


class Words(Reading):
    def test_one_to_eight_letters(self):
        for count in range(1, 9):
            word = "abcdefgh"[:count]
            self.read_by_both(word, name(word))
            self.read_by_both(f"{word}({word})", ("of", word, (name(word),)))
            self.same(read_pattern("?" + word), ("any", word))

    def test_nine_letters_and_none(self):
        for text in ("abcdefghi", "abcdefghi(x)", "f(abcdefghi)", "(x)", "f()", "f(, x)", "?abcdefghi", "?"):
            self.refused_by_both(text)

    def test_every_letter(self):
        for letter in "abcdefghijklmnopqrstuvwxyz":
            self.read_by_both(letter, name(letter))

    def test_no_other_sign_is_a_word_or_stands_in_one(self):
        for code in range(256):
            sign = chr(code)
            if not "a" <= sign <= "z":
                self.refused_by_both("x" + sign)
                self.refused_by_both("x" + sign + "y")
            if not "a" <= sign <= "z" and not "0" <= sign <= "9":
                self.refused_by_both(sign)


class Numbers(Reading):
    def test_sixty_figures_and_sixty_one(self):
        for ahead in ("", "-"):
            for figures in ("9" * 60, "1" + "0" * 59):
                self.read_by_both(ahead + figures, ("num", int(ahead + figures)))
            for figures in ("1" + "0" * 60, "9" * 61, "1" * 4000):
                self.refused_by_both(ahead + figures)
                self.refused_by_both(f"f({ahead}{figures})")

    def test_nought(self):
        self.read_by_both("0", ("num", 0))
        self.read_by_both("f(0)", ("of", "f", (("num", 0),)))
        for text in ("00", "-0", "01", "-01", "0" * 60, "0" + "1" * 59, "-0" + "1" * 58, "f(-0)", "f(x, 00)"):
            self.refused_by_both(text)

    def test_noughts_behind_the_first_figure(self):
        for number in (10, -10, 100, 101, -2000):
            self.read_by_both(str(number), ("num", number))

    def test_the_sign(self):
        for text in ("-", "--1", "+1", "- 1", "-x", "1-", "f(-)", "f(--1)", "-f(1)"):
            self.refused_by_both(text)


class Arms(Reading):
    def test_one_to_four_arms(self):
        for count in range(1, 5):
            text = "f(" + ", ".join("wxyz"[:count]) + ")"
            self.read_by_both(text, ("of", "f", tuple(name(word) for word in "wxyz"[:count])))

    def test_no_arm_and_five_arms(self):
        for text in ("f()", "f( )", "g(f())", "f(a, b, c, d, e)", "g(f(a, b, c, d, e))", "f(1, 2, 3, 4, 5, 6)"):
            self.refused_by_both(text)

    def test_the_understood_words_take_any_number_of_arms(self):
        for word in ("plus", "times", "neg", "bind"):
            for count in range(1, 5):
                self.read_by_both(f"{word}({', '.join('x' * count)})", ("of", word, (name("x"),) * count))


class Bounds(Reading):
    def test_thirty_deep_and_thirty_one(self):
        self.read_by_both("f(" * 29 + "x" + ")" * 29, chain(30))
        for leaf in ("x", "0", "-1"):
            self.refused_by_both("f(" * 30 + leaf + ")" * 30)
        self.refused_by_both("f(" * 30 + "?a" + ")" * 30)
        self.same(read_pattern("f(" * 29 + "?a" + ")" * 29)[2][0][0], "of")

    def test_depth_counts_in_every_arm(self):
        for k in range(4):
            for deep in (29, 30):
                arms = [name("y")] * 4
                arms[k] = chain(deep)
                tree = ("of", "g", tuple(arms))
                if deep == 29:
                    self.read_by_both(shown(tree), tree)
                else:
                    self.refused_by_both(shown(tree))

    def test_a_hundred_and_twenty_parts_and_one_more(self):
        self.read_by_both(shown(bushy(120)), bushy(120))
        self.refused_by_both(shown(bushy(121)))

    def test_both_bounds_at_once(self):
        tree = ("of", "h", (comb(29, 100), bushy(19)))
        self.assertEqual((parts(tree), depth(tree)), (120, 30))
        self.read_by_both(shown(tree), tree)
        self.refused_by_both(shown(("of", "h", (comb(29, 100), bushy(20)))))
        self.refused_by_both(shown(("of", "h", (comb(30, 100), bushy(19)))))

    def test_parts_of_all_kinds_count(self):
        for leaf in ("x", "5", "?a"):
            inner = "g(" + ", ".join([leaf] * 4) + ")"
            row = "f(" + ", ".join([inner] * 4) + ")"
            whole = "h(" + ", ".join([row] * 4) + ")"
            self.assertEqual(parts(read_pattern(whole)), 85)
            most = f"k({whole}, {row}, f(g({leaf}), {inner}, {leaf}, {leaf}), {leaf})"
            self.assertEqual(parts(read_pattern(most)), 118)
            self.assertEqual(parts(read_pattern(most.replace("k(", "k(k(", 1) + ")")), 119)
            self.assertEqual(parts(read_pattern(most.replace("k(", "k(k(k(", 1) + "))")), 120)
            self.refused_by_both(most.replace("k(", "k(k(k(k(", 1) + ")))")

    def test_long_texts_are_refused_by_name(self):
        for text in (
            "f(" * 5000, "f(" * 3333 + "x" + ")" * 3333, "x" * 10000, "(" * 10000, ")" * 10000, " " * 10000,
            "f(" + ", ".join("x" * 3332) + ")", "?" * 10000, "-" * 10000, "f(x, " * 2000, "f(x)" * 2500,
        ):
            self.assertLessEqual(len(text), 10000)
            self.refused_by_both(text)

    def test_shown_goes_to_sixty_deep_and_five_hundred_parts(self):
        self.assertEqual(shown(chain(60)), "f(" * 59 + "x" + ")" * 59)
        wide = ("of", "h", (comb(59, 200), bushy(120), bushy(100), bushy(79)))
        self.assertEqual((parts(wide), depth(wide)), (500, 60))
        text = shown(wide)
        self.assertEqual(len(re.findall("[a-z]+|[0-9]+", text)), 500)
        self.assertEqual(text, f"h({shown(wide[2][0])}, {shown(wide[2][1])}, {shown(wide[2][2])}, {shown(wide[2][3])})")
        self.refused_by_both(text)
        self.assertEqual(shown(("of", "f", (("any", "a"),) * 4)), "f(?a, ?a, ?a, ?a)")

    def test_shown_goes_somewhat_beyond(self):
        self.assertEqual(shown(chain(80)), "f(" * 79 + "x" + ")" * 79)


class Wrong(Reading):
    def test_wrong_texts(self):
        for text in WRONG + WRONG_HOLES:
            self.refused_by_both(text)

    def test_wrong_holes_as_arms(self):
        for text in WRONG_HOLES:
            if ", " not in text:
                self.refused_by_both(f"f({text})")


def writing_form(with_holes, deep):
    """The writings of all trees up to this depth, as one form for `re`: told another way than the reader's."""
    leaf = "[a-z]{1,8}|0|-?[1-9][0-9]{0,59}" + (r"|[?][a-z]{1,8}" if with_holes else "")
    form = f"(?:{leaf})"
    for _ in range(deep - 1):
        form = f"(?:{leaf}|[a-z]{{1,8}}[(]{form}(?:, {form}){{0,3}}[)])"
    return re.compile(form)


# No text that is judged below has room for more than five levels.
FORMS = ((read, writing_form(False, 5)), (read_pattern, writing_form(True, 5)))


class JustWhatIsWritten(Reading):
    def judged(self, text):
        for reader, form in FORMS:
            if form.fullmatch(text):
                self.assertEqual(shown(reader(text)), text)
            else:
                self.refuses(reader, text)

    def test_every_short_text(self):
        for count in range(6):
            for signs in itertools.product("a01-?(), ", repeat=count):
                self.judged("".join(signs))

    def test_every_small_change_of_a_writing(self):
        for start in ("plus(x, times(-3, ?a))", "f(a, 0, g(-10), d)", "abcdefgh(?b, h(z))"):
            for k in range(len(start) + 1):
                self.judged(start[:k])
                self.judged(start[k:])
                self.judged(start[:k] + start[k + 1:])
                for sign in "aZ09-?(), \n_":
                    self.judged(start[:k] + sign + start[k:])
                    self.judged(start[:k] + sign + start[k + 1:])


class Kept(Reading):
    def test_what_is_handed_in_stays_as_it_was(self):
        for pattern in random_patterns(50):
            before = copy.deepcopy(pattern)
            shown(pattern)
            self.same(pattern, before)

    def test_reading_twice_tells_the_same(self):
        for _, text in TREES + PATTERNS:
            self.same(read_pattern(text), read_pattern(text))
        for text in ("f(x", "?"):
            self.refused_by_both(text)
            self.refused_by_both(text)


if __name__ == "__main__":
    unittest.main()
