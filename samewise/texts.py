"""The writing of trees and patterns, and the reading of just that writing."""

from samewise.errors import NoTree
from samewise.trees import parts

# Spelled out, since Python's own tests for letters and figures take signs of other scripts, too.
LETTERS = "abcdefghijklmnopqrstuvwxyz"
FIGURES = "0123456789"

MOST_LETTERS = 8
MOST_FIGURES = 60
MOST_ARMS = 4
MOST_PARTS = 120
MOST_DEEP = 30


def is_word(text):
    if text == "" or len(text) > MOST_LETTERS:
        return False
    for sign in text:
        if sign not in LETTERS:
            return False
    return True


def read_count(text):
    # The number that is written so without a sign, or None.
    if text == "" or len(text) > MOST_FIGURES or (text[0] == "0" and text != "0"):
        return None
    for sign in text:
        if sign not in FIGURES:
            return None
    return int(text)


def shown(tree):
    if tree[0] == "num":
        return str(tree[1])
    if tree[0] == "name":
        return tree[1]
    if tree[0] == "any":
        return "?" + tree[1]
    arms = []
    for arm in tree[2]:
        arms.append(shown(arm))
    return tree[1] + "(" + ", ".join(arms) + ")"


def read(text):
    return read_whole(Reader(text, False))


def read_pattern(text):
    return read_whole(Reader(text, True))


def read_whole(reader):
    tree = reader.take_tree(1)
    if reader.ahead() != "":
        raise NoTree("something stands behind the end")
    if parts(tree) > MOST_PARTS:
        raise NoTree(f"more than {MOST_PARTS} parts")
    return tree


class Reader:
    def __init__(self, text, with_holes):
        self.text = text
        self.with_holes = with_holes
        self.place = 0

    def ahead(self):
        # A slice, since it is empty at the text's end, where an index would fail.
        return self.text[self.place:self.place + 1]

    def take(self, wanted):
        end = self.place + len(wanted)
        if self.text[self.place:end] != wanted:
            raise NoTree(f"{wanted!r} is lacking")
        self.place = end

    def take_run(self, signs):
        start = self.place
        while self.place < len(self.text) and self.text[self.place] in signs:
            self.place += 1
        return self.text[start:self.place]

    def take_word(self):
        word = self.take_run(LETTERS)
        if word == "" or len(word) > MOST_LETTERS:
            raise NoTree(f"no word of 1 to {MOST_LETTERS} letters")
        return word

    def take_number(self):
        start = self.place
        if self.ahead() == "-":
            self.place += 1
        figures = self.take_run(FIGURES)
        if figures == "" or len(figures) > MOST_FIGURES:
            raise NoTree(f"no number of 1 to {MOST_FIGURES} figures")
        written = self.text[start:self.place]
        if figures[0] == "0" and written != "0":
            raise NoTree("a nought ahead of a number, or a nought with a sign")
        return ("num", int(written))

    def take_arms(self, deep):
        arms = [self.take_tree(deep)]
        while self.ahead() == ",":
            self.take(", ")
            arms.append(self.take_tree(deep))
        self.take(")")
        if len(arms) > MOST_ARMS:
            raise NoTree(f"more than {MOST_ARMS} arms")
        return tuple(arms)

    def take_tree(self, deep):
        # Looked at on the way down, so that no text leads to more calls than a tree may be deep.
        if deep > MOST_DEEP:
            raise NoTree(f"more than {MOST_DEEP} deep")
        sign = self.ahead()
        # Asked first, since the empty text counts as a part of FIGURES.
        if sign == "":
            raise NoTree("the text ends where a tree is due")
        if sign == "-" or sign in FIGURES:
            return self.take_number()
        if sign == "?" and self.with_holes:
            self.take("?")
            return ("any", self.take_word())
        word = self.take_word()
        if self.ahead() != "(":
            return ("name", word)
        self.take("(")
        return ("of", word, self.take_arms(deep + 1))
