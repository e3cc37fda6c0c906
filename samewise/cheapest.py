"""Taking out the cheapest member of a class."""

from samewise.bank import refuse_great, size_above, tree_above
from samewise.closed import mark


def cost_of(term, costs):
    if term[0] == "num":
        return costs.get("#", 1)
    if term[0] == "name":
        return costs.get("@", 1)
    return costs.get(term[1], 1)


def prices(terms, leads, costs):
    least = class_prices(terms, leads, costs)
    return [least[lead] for lead in leads]


def class_prices(terms, leads, costs):
    # For each lead; gone through again for as long as anything gets cheaper.
    least = {}
    changed = True
    while changed:
        changed = False
        for k, term in enumerate(terms):
            # Every number is less than k, so its class has a price already.
            price = term_price(term, leads, costs, least)
            if leads[k] not in least or price < least[leads[k]]:
                least[leads[k]] = price
                changed = True
    return least


def term_price(term, leads, costs, least):
    total = cost_of(term, costs)
    for below in arm_leads(term, leads):
        total += least[below]
    return total


def cheapest(terms, leads, costs, k):
    least = class_prices(terms, leads, costs)
    picks = {}
    for number, term in enumerate(terms):
        if leads[number] not in picks and term_price(term, leads, costs, least) == least[leads[number]]:
            picks[leads[number]] = number
    # A knot costs more than each of its arms, so rising prices put the arms above, and the class asked for last.
    rising = sorted(needed_leads(terms, leads, picks, leads[k]), key=lambda one: least[one])
    return (least[leads[k]], [(lead, picks[lead]) for lead in rising])


def needed_leads(terms, leads, picks, lead):
    # The leads that are come to from this one through the picked terms alone, each once.
    found = {lead: True}
    waiting = [lead]
    while waiting:
        here = waiting.pop()
        for below in arm_leads(terms[picks[here]], leads):
            if below not in found:
                found[below] = True
                waiting.append(below)
    return list(found)


def arm_leads(term, leads):
    if term[0] != "of":
        return []
    return [leads[number] for number in term[2]]


def taken(terms, leads, choice):
    sizes = {}
    trees = {}
    for lead, k in choice:
        own = mark(terms[k], leads)
        sizes[lead] = size_above(own, sizes)
        trees[lead] = tree_above(own, trees)
    last = choice[-1][0]
    refuse_great(sizes[last])
    return trees[last]
