"""Taking out the member of a class that is cheapest with shared parts counted once."""

from samewise.cheapest import arm_leads, cost_of, needed_leads
from samewise.closed import nodes
from samewise.errors import TooWide

MOST_WAYS = 200


def sharing(terms, leads, costs, k):
    heads = nodes(terms, leads)
    reached = reached_leads(terms, leads, heads, leads[k])
    if count_ways(heads, reached) > MOST_WAYS:
        raise TooWide(f"more than {MOST_WAYS} ways")
    best = None
    # One term for each class is enough: a member that has two parts of one class gets no dearer with one of them, the
    # less deep one, in the place of both.
    for picks in all_picks(heads, reached):
        choice = ordered(terms, leads, picks, needed_leads(terms, leads, picks, leads[k]))
        if choice is not None:
            price = sum([cost_of(terms[row[1]], costs) for row in choice])
            if best is None or price < best[0]:
                best = (price, choice)
    return best


def reached_leads(terms, leads, heads, lead):
    found = {lead: True}
    waiting = [lead]
    while waiting:
        here = waiting.pop()
        for k in heads[here]:
            for below in arm_leads(terms[k], leads):
                if below not in found:
                    found[below] = True
                    waiting.append(below)
    return list(found)


def count_ways(heads, reached):
    ways = 1
    for lead in reached:
        ways = ways * len(heads[lead])
    return ways


def all_picks(heads, reached):
    picks = [{}]
    for lead in reached:
        longer = []
        for pick in picks:
            for k in heads[lead]:
                more = dict(pick)
                more[lead] = k
                longer.append(more)
        picks = longer
    return picks


def ordered(terms, leads, picks, needed):
    # The rows of a choice with arms above; None where the picked terms go round in a ring.
    rows = []
    placed = {}
    left = sorted(needed)
    while left:
        later = []
        for lead in left:
            if all([below in placed for below in arm_leads(terms[picks[lead]], leads)]):
                placed[lead] = True
                rows.append((lead, picks[lead]))
            else:
                later.append(lead)
        if len(later) == len(left):
            return None
        left = later
    return rows
