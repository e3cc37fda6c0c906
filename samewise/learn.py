"""What can be learnt of classes: facts of a kind, and the numbers that stand in them."""

from samewise.closed import members


def learned(kind):
    known = [kind.top()] * len(kind.terms)
    steps = []
    # A class that knows more may make others know more, so it goes on until a whole walk brings nothing.
    done = -1
    while done < len(steps):
        done = len(steps)
        for k, term in enumerate(kind.terms):
            fact = known[k] & kind.worth(term, known)
            if fact != known[k]:
                steps.append((k, fact))
                for member in members(kind.leads, k):
                    known[member] = fact
    return (known, steps)


def numbers(terms, leads, k):
    return [terms[member][1] for member in members(leads, k) if terms[member][0] == "num"]


def odds(terms, leads):
    pairs = []
    for k in range(len(leads)):
        if leads[k] == k:
            found = sorted(numbers(terms, leads, k))
            if len(found) > 1:
                pairs.append((found[0], found[1]))
    return min(pairs, default=None)
