"""Rules: a left and a right pattern that are the same wherever the rule's asks hold."""

from samewise.errors import NoRule
from samewise.texts import is_word
from samewise.trees import holes, knots, parts

MOST_WEIGHT = 1000000000000
MOST_RULE_PARTS = 12
MOST_LEFT_KNOTS = 3
MOST_ASKS = 4
MOST_MASK = 7


class Rule:
    def __init__(self, title, weight, left, right, asks):
        if not is_word(title):
            raise NoRule("the title is no word")
        if weight < 1 or weight > MOST_WEIGHT:
            raise NoRule(f"the weight is not from 1 to {MOST_WEIGHT}")
        refuse_patterns(left, right)
        refuse_asks(asks, holes(left))
        self.title = title
        self.weight = weight
        self.left = left
        self.right = right
        self.asks = list(asks)


def refuse_patterns(left, right):
    if left[0] != "of":
        raise NoRule("left is no knot")
    if parts(left) > MOST_RULE_PARTS or parts(right) > MOST_RULE_PARTS:
        raise NoRule(f"more than {MOST_RULE_PARTS} parts on one side")
    if knots(left) > MOST_LEFT_KNOTS:
        raise NoRule(f"more than {MOST_LEFT_KNOTS} knots in left")
    bound = holes(left)
    for hole in holes(right):
        if hole not in bound:
            raise NoRule("a hole of right doesn't stand in left")


def refuse_asks(asks, bound):
    if len(asks) > MOST_ASKS:
        raise NoRule(f"more than {MOST_ASKS} asks")
    for ask in asks:
        if ask[1] not in bound:
            raise NoRule("a hole of an ask doesn't stand in left")
        if ask[0] == "free" and not is_word(ask[2]):
            raise NoRule("a name that is no word")
        if ask[0] == "sign" and (ask[2] < 1 or ask[2] > MOST_MASK):
            raise NoRule(f"a mask that is not from 1 to {MOST_MASK}")
