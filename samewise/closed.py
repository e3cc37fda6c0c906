"""The least sameness over terms, told by the least number of each class."""


def mark(term, leads):
    if term[0] != "of":
        return term
    return ("of", term[1], tuple([leads[number] for number in term[2]]))


def closed(terms, edges):
    leads = list(range(len(terms)))
    for edge in edges:
        join_classes(leads, edge[0], edge[1])
    # Each joining may make more terms like, so it goes on until nothing new comes.
    while join_like(terms, leads):
        pass
    return leads


def join_classes(leads, a, b):
    low = min(leads[a], leads[b])
    high = max(leads[a], leads[b])
    if low == high:
        return False
    for k in range(high, len(leads)):
        if leads[k] == high:
            leads[k] = low
    return True


def join_like(terms, leads):
    joined = False
    first = {}
    for k, term in enumerate(terms):
        other = first.setdefault(mark(term, leads), k)
        if join_classes(leads, other, k):
            joined = True
    return joined


def marks(terms, leads):
    table = {}
    for k, term in enumerate(terms):
        table[mark(term, leads)] = leads[k]
    return table


def nodes(terms, leads):
    found = {}
    seen = {}
    for k, term in enumerate(terms):
        own = mark(term, leads)
        if own not in seen:
            seen[own] = True
            found.setdefault(leads[k], []).append(k)
    return found


def class_of(table, leads, pattern, binds=None):
    if pattern[0] == "any":
        return leads[binds[pattern[1]]]
    if pattern[0] != "of":
        return table.get(pattern)
    arms = []
    for arm in pattern[2]:
        lead = class_of(table, leads, arm, binds)
        if lead is None:
            return None
        arms.append(lead)
    return table.get(("of", pattern[1], tuple(arms)))


def members(leads, k):
    return [number for number in range(len(leads)) if leads[number] == leads[k]]
