"""The writing of rules, and the reading of just that writing."""

from samewise.errors import NoRule, NoTree
from samewise.rules import Rule
from samewise.texts import read_count, read_pattern, shown

# The sign at place i stands for the bit 2 to the i of a mask.
MASK_SIGNS = "-0+"


def show_mask(mask):
    text = ""
    for place, sign in enumerate(MASK_SIGNS):
        if mask & (1 << place):
            text += sign
    return text


def show_ask(ask):
    text = ask[0] + " ?" + ask[1]
    if ask[0] == "free":
        return text + " " + ask[2]
    if ask[0] == "sign":
        return text + " " + show_mask(ask[2])
    return text


def show_rule(rule):
    text = rule.title + " " + str(rule.weight) + ": " + shown(rule.left) + " = " + shown(rule.right)
    if not rule.asks:
        return text
    return text + " if " + ", ".join([show_ask(ask) for ask in rule.asks])


def read_rule(line):
    # No title, number or pattern has a colon, an equals sign or a word between two blanks in it, so each of these
    # signs is looked for where it first stands; whatever is wrong about the pieces is seen when they are read.
    head = split_at(line, ": ")
    named = split_at(head[0], " ")
    sides = split_at(head[1], " = ")
    weight = read_count(named[1])
    if weight is None:
        raise NoRule("the weight is no number")
    asked = sides[1].partition(" if ")
    asks = []
    if asked[1] != "":
        asks = [read_ask(text) for text in asked[2].split(", ")]
    return Rule(named[0], weight, read_side(sides[0]), read_side(asked[0]), asks)


def split_at(text, sign):
    pieces = text.partition(sign)
    if pieces[1] == "":
        raise NoRule(f"{sign!r} is lacking")
    return (pieces[0], pieces[2])


def read_side(text):
    try:
        return read_pattern(text)
    except NoTree:
        raise NoRule("a side is no pattern") from None


def read_ask(text):
    words = text.split(" ")
    if len(words) < 2 or not words[1].startswith("?"):
        raise NoRule("an ask without a hole")
    hole = words[1][1:]
    if words[0] == "free" and len(words) == 3:
        return ("free", hole, words[2])
    if words[0] == "sign" and len(words) == 3:
        return ("sign", hole, read_mask(words[2]))
    if words[0] == "number" and len(words) == 2:
        return ("number", hole)
    raise NoRule("no ask of the three forms")


def read_mask(text):
    mask = 0
    for place, sign in enumerate(MASK_SIGNS):
        if sign in text:
            mask = mask | (1 << place)
    # Signs in another order, twice, or others are seen by this.
    if show_mask(mask) != text:
        raise NoRule("no signs of a mask")
    return mask
