"""Arithmetic worked out a second time, from the words of the document, and slowly.

Nothing here imports the package. Polynomials are dicts from exponents (i, j) to numbers.
"""

from functools import lru_cache

FIELDS = (2, 3, 4, 5, 7, 8, 9, 11, 13, 16)
ROOTS = {4: (2, 2), 8: (2, 3), 9: (3, 2), 16: (2, 4)}


def characteristic(q):
    return ROOTS[q][0] if q in ROOTS else q


def digits(q, a):
    p, many = ROOTS[q]
    return [a // p ** k % p for k in range(many)]


def number(q, parts):
    p = ROOTS[q][0]
    return sum(part % p * p ** k for k, part in enumerate(parts))


@lru_cache(maxsize=None)
def plus(q, a, b):
    if q not in ROOTS:
        return (a + b) % q
    return number(q, [x + y for x, y in zip(digits(q, a), digits(q, b))])


@lru_cache(maxsize=None)
def times(q, a, b):
    if q not in ROOTS:
        return a * b % q
    many = ROOTS[q][1]
    parts = [0] * (2 * many - 1)
    for i, x in enumerate(digits(q, a)):
        for j, y in enumerate(digits(q, b)):
            parts[i + j] += x * y
    # w to the power many is w + 1, for each of the four fields.
    for k in range(2 * many - 2, many - 1, -1):
        parts[k - many] += parts[k]
        parts[k - many + 1] += parts[k]
    return number(q, parts[:many])


@lru_cache(maxsize=None)
def opposite(q, a):
    return [b for b in range(q) if plus(q, a, b) == 0][0]


@lru_cache(maxsize=None)
def inverse(q, a):
    return [b for b in range(q) if times(q, a, b) == 1][0]


def ones(q, many):
    """The sum of so many ones."""
    found = 0
    for _ in range(many):
        found = plus(q, found, 1)
    return found


def power(q, a, exponent):
    found = 1
    for _ in range(exponent):
        found = times(q, found, a)
    return found


# Polynomials in two letters


def as_dict(F):
    return {(i, j): c for i, j, c in F}


def as_poly(found):
    return tuple(sorted((i, j, c) for (i, j), c in found.items() if c))


def poly_plus(q, F, G):
    found = dict(F)
    for at, c in G.items():
        found[at] = plus(q, found.get(at, 0), c)
    return {at: c for at, c in found.items() if c}


def poly_times(q, F, G):
    found = {}
    for (i, j), c in F.items():
        for (k, m), d in G.items():
            found[i + k, j + m] = plus(q, found.get((i + k, j + m), 0), times(q, c, d))
    return {at: c for at, c in found.items() if c}


def poly_value(q, F, x, y):
    found = 0
    for (i, j), c in F.items():
        found = plus(q, found, times(q, c, times(q, power(q, x, i), power(q, y, j))))
    return found


def put(q, F, pair):
    """Sum of the products of all powers, each worked out in full."""
    most = max([max(at) for at in F], default=0)
    powers = []
    for G in pair:
        row = [{(0, 0): 1}]
        for _ in range(most):
            row.append(poly_times(q, row[-1], G))
        powers.append(row)
    found = {}
    for (i, j), c in F.items():
        term = poly_times(q, powers[0][i], powers[1][j])
        found = poly_plus(q, found, poly_times(q, {(0, 0): c}, term))
    return found


def degree(F):
    return max([i + j for i, j in F], default=-1)


def piece_pair(piece):
    """The pair of dicts that a piece stands for."""
    sort, m = piece
    if sort == "bend":
        first = {(1, 0): 1}
        for k, c in enumerate(m):
            if c:
                first[0, k] = c
        return (first, {(0, 1): 1})
    found = []
    for a, b, c in (m[:3], m[3:]):
        found.append({at: n for at, n in (((1, 0), a), ((0, 1), b), ((0, 0), c)) if n})
    return tuple(found)


def row_pair(q, row):
    """The pair that a row makes, as the package writes it."""
    pair = ({(1, 0): 1}, {(0, 1): 1})
    for piece in row:
        bent = piece_pair(piece)
        pair = (put(q, bent[0], pair), put(q, bent[1], pair))
    return (as_poly(pair[0]), as_poly(pair[1]))


# Points whose coordinates are polynomials in t, cut off behind t to the power SIZE - 1. They tell
# rows of pieces apart by what they do, also where the degrees are far too great to be worked out.

SIZE = 16


def cut_plus(q, f, g):
    return tuple(plus(q, a, b) for a, b in zip(f, g))


def cut_times(q, f, g):
    found = [0] * SIZE
    for i, a in enumerate(f):
        if a:
            for j in range(SIZE - i):
                found[i + j] = plus(q, found[i + j], times(q, a, g[j]))
    return tuple(found)


def cut_number(number):
    return (number,) + (0,) * (SIZE - 1)


def cut_piece(q, piece, point):
    x, y = point
    sort, m = piece
    if sort == "bend":
        found = cut_number(0)
        for c in reversed(m):
            found = cut_plus(q, cut_times(q, found, y), cut_number(c))
        return (cut_plus(q, x, found), y)
    a, b, c, d, e, f = [cut_number(part) for part in m]
    return (
        cut_plus(q, cut_plus(q, cut_times(q, a, x), cut_times(q, b, y)), c),
        cut_plus(q, cut_plus(q, cut_times(q, d, x), cut_times(q, e, y)), f),
    )


def cut_row(q, row, point):
    for piece in row:
        point = cut_piece(q, piece, point)
    return point


# What is right, by the words of the document


def is_int(thing):
    return type(thing) is int


def is_number(q, thing):
    return is_int(thing) and thing in range(q)


def is_one_letter(q, thing):
    if type(thing) is not tuple:
        return False
    for part in thing:
        if not is_number(q, part):
            return False
    return thing == () or thing[len(thing) - 1] != 0


def is_poly(q, thing):
    if type(thing) is not tuple:
        return False
    for term in thing:
        if type(term) is not tuple or len(term) != 3 or not all(is_int(part) for part in term):
            return False
        if min(term[:2]) < 0 or term[2] not in range(1, q):
            return False
    return list(thing) == sorted(thing) and len({term[:2] for term in thing}) == len(thing)


def is_pair(q, thing):
    return type(thing) is tuple and len(thing) == 2 and all(is_poly(q, part) for part in thing)


def is_straight(q, thing):
    if type(thing) is not tuple or len(thing) != 6 or not all(is_number(q, part) for part in thing):
        return False
    a, b, _, d, e, _ = thing
    return times(q, a, e) != times(q, b, d)


def is_bend(q, thing):
    return is_one_letter(q, thing) and len(thing) - 1 in range(2, 7) and thing[:2] == (0, 0)


def is_piece(q, thing):
    if type(thing) is not tuple or len(thing) != 2 or type(thing[0]) is not str:
        return False
    return {"straight": is_straight, "bend": is_bend}.get(thing[0], lambda q, part: False)(q, thing[1])


def is_row(q, thing):
    return type(thing) is tuple and all(is_piece(q, part) for part in thing)


def is_step(q, thing):
    if type(thing) is not tuple or len(thing) != 4:
        return False
    start, bends, turns, last = thing
    if not is_int(start) or start not in range(-1, q) or not is_straight(q, last):
        return False
    if type(bends) is not tuple or type(turns) is not tuple:
        return False
    if not all(is_bend(q, bend) for bend in bends) or not all(is_number(q, turn) for turn in turns):
        return False
    if bends == ():
        return start == -1 and turns == ()
    return len(turns) + 1 == len(bends)
