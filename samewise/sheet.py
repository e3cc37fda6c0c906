"""The reading of sheets: a text of rows, read to a list of orders."""

from samewise.errors import NoRow, NoRule, NoTree
from samewise.ruletext import read_rule
from samewise.texts import is_word, read, read_count

PAIR_WORDS = ("tell", "same", "why")
TREE_WORDS = ("put", "cheap", "shared", "sign", "names", "number")

MOST_COST = 1000000000000
MOST_ROUNDS = 100
MOST_SIZE = 1000


def read_sheet(text):
    orders = []
    titles = {}
    for line, row in enumerate(text.split("\n"), start=1):
        if row != "":
            order = read_row(row, line)
            if order[0] == "rule":
                if order[1].title in titles:
                    raise NoRow(line)
                titles[order[1].title] = True
            orders.append(order)
    return orders


def read_row(row, line):
    pieces = row.partition(" ")
    try:
        order = read_order(pieces[0], pieces[2])
    except (NoRule, NoTree):
        raise NoRow(line) from None
    if order is None:
        raise NoRow(line)
    return order


def read_order(word, rest):
    # None, or the refusal of a rule or a tree, where it is no order.
    if word == "rule":
        return ("rule", read_rule(rest))
    if word == "cost":
        return read_cost(rest)
    if word == "grow":
        return read_grow(rest)
    if word in PAIR_WORDS:
        sides = rest.partition(" = ")
        return (word, read(sides[0]), read(sides[2]))
    if word in TREE_WORDS:
        return (word, read(rest))
    return None


def read_cost(rest):
    pieces = rest.partition(" ")
    key = pieces[0]
    cost = count_within(pieces[2], 1, MOST_COST)
    if cost is None or not (is_word(key) or key in ("#", "@")):
        return None
    return ("cost", key, cost)


def read_grow(rest):
    pieces = rest.partition(" ")
    rounds = count_within(pieces[0], 0, MOST_ROUNDS)
    size = count_within(pieces[2], 1, MOST_SIZE)
    if rounds is None or size is None:
        return None
    return ("grow", rounds, size)


def count_within(text, low, high):
    count = read_count(text)
    if count is None or count < low or count > high:
        return None
    return count
