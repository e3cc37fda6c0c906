"""Trees and texts that several tests need."""

import random

WORDS = ("a", "x", "plus", "times", "neg", "bind", "if", "abcdefgh")


def name(word):
    return ("name", word)


def chain(deep):
    """A tree that is just so deep, with one part on each level."""
    tree = name("x")
    for _ in range(deep - 1):
        tree = ("of", "f", (tree,))
    return tree


def bushy(many):
    """A tree of just so many parts, as flat as four arms a knot allow."""
    if many == 1:
        return ("num", 7)
    count = min(4, many - 1)
    share, rest = divmod(many - 1, count)
    return ("of", "f", tuple(bushy(share + (1 if k < rest else 0)) for k in range(count)))


def comb(deep, many):
    """A tree that is just so deep and has just so many parts."""
    tree = name("x")
    lacking = many - deep
    for _ in range(deep - 1):
        extra = min(3, lacking)
        lacking -= extra
        tree = ("of", "g", (name("y"),) * extra + (tree,))
    if lacking:
        raise ValueError("so many parts don't go into so little depth")
    return tree


def random_pattern(source, deep, with_holes=True):
    kind = source.choice(["num", "name", "any", "of", "of"])
    if kind == "any" and not with_holes:
        kind = "name"
    if kind == "of" and deep > 1:
        count = source.randint(1, 4)
        arms = tuple(random_pattern(source, deep - 1, with_holes) for _ in range(count))
        return ("of", source.choice(WORDS), arms)
    if kind == "num":
        return ("num", source.choice([0, 1, -1, 10, -907, 10 ** 60 - 1, 1 - 10 ** 60]))
    return ("any" if kind == "any" else "name", source.choice(WORDS))


def random_patterns(count, with_holes=True):
    """The same ones at each call: the seed is written here."""
    source = random.Random(20)
    return [random_pattern(source, 4, with_holes) for _ in range(count)]
