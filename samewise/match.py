"""Where the left pattern of a rule fits, and whether the rule's asks hold there."""

from samewise.closed import marks, nodes
from samewise.learn import numbers


def matches(terms, leads, left):
    matcher = Matcher(terms, leads)
    found = []
    for k in node_numbers(terms, leads):
        for binds in matcher.term_ways(k, left, {}):
            found.append((k, binds))
    return found


def node_numbers(terms, leads):
    found = []
    for row in nodes(terms, leads).values():
        found.extend(row)
    return sorted(found)


class Matcher:
    # A way is the dict of what is bound; none is changed once it is made.
    def __init__(self, terms, leads):
        self.terms = terms
        self.leads = leads
        self.table = marks(terms, leads)
        self.heads = nodes(terms, leads)

    def term_ways(self, k, pattern, binds):
        term = self.terms[k]
        if term[0] != "of" or term[1] != pattern[1] or len(term[2]) != len(pattern[2]):
            return []
        ways = [binds]
        for number, arm in zip(term[2], pattern[2]):
            longer = []
            for way in ways:
                longer.extend(self.class_ways(self.leads[number], arm, way))
            ways = longer
        return ways

    def class_ways(self, lead, pattern, binds):
        if pattern[0] == "any":
            return hole_ways(lead, pattern[1], binds)
        if pattern[0] != "of":
            return [binds] if self.table.get(pattern) == lead else []
        ways = []
        for k in self.heads[lead]:
            ways.extend(self.term_ways(k, pattern, binds))
        return ways


def hole_ways(lead, hole, binds):
    if hole in binds:
        return [binds] if binds[hole] == lead else []
    more = dict(binds)
    more[hole] = lead
    return [more]


def holding(rule, binds, signs, known_signs, names, known_names):
    for ask in rule.asks:
        k = binds[ask[1]]
        if ask[0] == "free" and not names.free(known_names, k, ask[2]):
            return False
        if ask[0] == "sign" and not signs.within(known_signs, k, ask[2]):
            return False
        if ask[0] == "number" and not numbers(signs.terms, signs.leads, k):
            return False
    return True
