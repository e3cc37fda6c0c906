"""Papers, told as books, and whether a book holds."""

from samewise.errors import Apart
from samewise.lengths import lengths, like_length, like_pairs, unlike_arms


def paper(terms, leads, edges, a, b):
    if leads[a] != leads[b]:
        raise Apart(f"{a} and {b} lie in two classes")
    least = lengths(terms, leads, edges)
    steps = least_steps(terms, leads, edges, least)
    rows = {}
    needed = [(a, b)]
    while needed:
        ends = needed.pop()
        if ends not in rows:
            row = steps_between(steps, least, ends[0], ends[1])
            rows[ends] = row
            needed.extend(ends_within(terms, row))
    book = []
    # What a row needs is shorter than the row itself, so it comes above it, and the asked row comes last.
    for ends in sorted(rows, key=lambda pair: least[pair[0]][pair[1]]):
        book.append((ends[0], ends[1], least[ends[0]][ends[1]], rows[ends]))
    return book


def least_steps(terms, leads, edges, least):
    # For each term those steps from it that are a least paper by themselves.
    steps = [[] for term in terms]
    for place, edge in enumerate(edges):
        a = edge[0]
        b = edge[1]
        if edge[2] == least[a][b]:
            steps[a].append(("edge", a, b, place))
            steps[b].append(("edge", b, a, place))
    for a, b in like_pairs(terms, leads):
        if like_length(terms, least, a, b) == least[a][b]:
            steps[a].append(("like", a, b))
            steps[b].append(("like", b, a))
    return steps


def steps_between(steps, least, a, b):
    row = []
    here = a
    while here != b:
        for step in steps[here]:
            there = step[2]
            if least[here][there] + least[there][b] == least[here][b]:
                row.append(step)
                here = there
                break
    return row


def ends_within(terms, row):
    found = []
    for step in row:
        if step[0] == "like":
            found.extend(unlike_arms(terms, step[1], step[2]))
    return found


def holds(terms, edges, book, a, b):
    if not book or book[-1][0] != a or book[-1][1] != b:
        return False
    above = {}
    for row in book:
        ends = (row[0], row[1])
        if ends in above or not row_holds(terms, edges, row, above):
            return False
        above[ends] = row[2]
    return True


def row_holds(terms, edges, row, above):
    # The second end needs no look of its own: it must be where the last step, or the first end, is.
    if not is_place(terms, row[0]):
        return False
    here = row[0]
    total = 0
    for step in row[3]:
        if step[1] != here or not is_place(terms, step[2]):
            return False
        length = step_length(terms, edges, step, above)
        if length is None:
            return False
        total += length
        here = step[2]
    return here == row[1] and total == row[2]


def is_place(row, k):
    return 0 <= k and k < len(row)


def step_length(terms, edges, step, above):
    # None where it is no step at all.
    if step[0] == "edge":
        return edge_length(edges, step)
    return told_length(terms, step, above)


def edge_length(edges, step):
    if not is_place(edges, step[3]):
        return None
    edge = edges[step[3]]
    one_way = step[1] == edge[0] and step[2] == edge[1]
    other_way = step[1] == edge[1] and step[2] == edge[0]
    if not one_way and not other_way:
        return None
    return edge[2]


def told_length(terms, step, above):
    one = terms[step[1]]
    other = terms[step[2]]
    if step[1] == step[2] or one[0] != "of" or other[0] != "of":
        return None
    if one[1] != other[1] or len(one[2]) != len(other[2]):
        return None
    total = 1
    for ends in unlike_arms(terms, step[1], step[2]):
        if ends not in above:
            return None
        total += above[ends]
    return total
