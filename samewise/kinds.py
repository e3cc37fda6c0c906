"""Kinds of facts: what a term is worth by what is known of its numbers' classes."""

NEGATIVE = 1
NOUGHT = 2
POSITIVE = 4
ANY_SIGN = 7
SIGN_BITS = (1, 2, 4)


def is_sum(term):
    return term[0] == "of" and term[1] == "plus" and len(term[2]) == 2


def is_product(term):
    return term[0] == "of" and term[1] == "times" and len(term[2]) == 2


def is_opposite(term):
    return term[0] == "of" and term[1] == "neg" and len(term[2]) == 1


def is_binder(term):
    return term[0] == "of" and term[1] == "bind" and len(term[2]) == 2


class Kind:
    def __init__(self, terms, leads):
        self.terms = list(terms)
        self.leads = list(leads)

    def top(self):
        return 1

    def worth(self, term, known):
        return 1


class Signs(Kind):
    def top(self):
        return ANY_SIGN

    def worth(self, term, known):
        if term[0] == "num":
            return sign_of_number(term[1])
        if is_sum(term):
            return sign_of_pair(add_signs, known[term[2][0]], known[term[2][1]])
        if is_product(term):
            return sign_of_pair(multiply_signs, known[term[2][0]], known[term[2][1]])
        if is_opposite(term):
            # An opposite is the product with something below nought.
            return sign_of_pair(multiply_signs, NEGATIVE, known[term[2][0]])
        return ANY_SIGN

    def within(self, known, k, mask):
        return known[k] & mask == known[k]


def sign_of_number(number):
    if number < 0:
        return NEGATIVE
    if number == 0:
        return NOUGHT
    return POSITIVE


def sign_of_pair(combine, fact, other_fact):
    found = 0
    for one in SIGN_BITS:
        for other in SIGN_BITS:
            if fact & one and other_fact & other:
                found = found | combine(one, other)
    return found


def add_signs(one, other):
    if one == NOUGHT or one == other:
        return other
    if other == NOUGHT:
        return one
    return ANY_SIGN


def multiply_signs(one, other):
    if one == NOUGHT or other == NOUGHT:
        return NOUGHT
    if one == other:
        return POSITIVE
    return NEGATIVE


class Names(Kind):
    def __init__(self, terms, leads):
        Kind.__init__(self, terms, leads)
        self.held = [term[1] for term in terms if term[0] == "name"]
        self.bits = {}
        for place, word in enumerate(self.held):
            self.bits[word] = 1 << place
        # For each lead the bits of the names that stand in its class.
        self.standing = {}
        for k, term in enumerate(terms):
            if term[0] == "name":
                self.standing[leads[k]] = self.standing.get(leads[k], 0) | self.bits[term[1]]

    def top(self):
        return (1 << len(self.held)) - 1

    def worth(self, term, known):
        if term[0] == "num":
            return 0
        if term[0] == "name":
            return self.bits.get(term[1], 0)
        if is_binder(term):
            bound = self.standing.get(self.leads[term[2][0]], 0)
            return known[term[2][1]] & ~bound
        found = 0
        for number in term[2]:
            found = found | known[number]
        return found

    def free(self, known, k, name):
        return name not in self.bits or known[k] & self.bits[name] == 0
