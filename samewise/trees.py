"""What can be counted in trees and patterns."""


def parts(tree):
    if tree[0] != "of":
        return 1
    total = 1
    for arm in tree[2]:
        total += parts(arm)
    return total


def depth(tree):
    if tree[0] != "of":
        return 1
    deepest = 0
    for arm in tree[2]:
        deepest = max(deepest, depth(arm))
    return deepest + 1


def knots(pattern):
    if pattern[0] != "of":
        return 0
    total = 1
    for arm in pattern[2]:
        total += knots(arm)
    return total


def holes(pattern):
    # A dict keeps the order in which its keys came, and each key once.
    found = {}
    note_holes(pattern, found)
    return list(found)


def note_holes(pattern, found):
    if pattern[0] == "any":
        found[pattern[1]] = True
    if pattern[0] == "of":
        for arm in pattern[2]:
            note_holes(arm, found)
