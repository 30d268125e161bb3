"""Polynomials in two letters: ascending tuples of triples (i, j, c) for c x^i y^j [2.1]."""

from bentplane.fields import characteristic, is_integer, is_number, opposite, plus, power, times
from bentplane.tables import PRODUCTS, SUMS


def is_exponent(thing):
    """Whether any value can be an exponent."""
    return is_integer(thing) and thing >= 0


def is_term(q, thing):
    """Whether any value is a triple (i, j, c) that can stand in a polynomial."""
    if not isinstance(thing, tuple) or len(thing) != 3:
        return False
    return is_exponent(thing[0]) and is_exponent(thing[1]) and is_number(q, thing[2]) and thing[2] != 0


def is_poly(q, thing):
    """Whether any value is a polynomial of q."""
    if not isinstance(thing, tuple) or not all([is_term(q, part) for part in thing]):
        return False
    return all([thing[k][:2] < thing[k + 1][:2] for k in range(len(thing) - 1)])


def as_poly(found):
    """The polynomial with the numbers of a dict whose keys are the exponents (i, j)."""
    return tuple([(i, j, c) for (i, j), c in sorted(found.items()) if c != 0])


def as_dict(F):
    """The numbers of a polynomial, by their exponents (i, j)."""
    return {(i, j): c for i, j, c in F}


def number_alone(number):
    """The polynomial that is a number."""
    if number == 0:
        return ()
    return ((0, 0, number),)


def poly_plus(q, F, G):
    """The sum of two polynomials."""
    found = as_dict(F)
    for i, j, c in G:
        found[i, j] = plus(q, found.get((i, j), 0), c)
    return as_poly(found)


def poly_scaled(q, F, number):
    """A polynomial times a number."""
    if number == 0:
        return ()
    return tuple([(i, j, times(q, c, number)) for i, j, c in F])


def poly_minus(q, F, G):
    """The difference of two polynomials."""
    return poly_plus(q, F, poly_scaled(q, G, opposite(q, 1)))


def poly_times(q, F, G):
    """The product of two polynomials."""
    sums = SUMS[q]
    found = {}
    for i, j, c in F:
        products = PRODUCTS[q][c]
        for k, m, d in G:
            exponents = (i + k, j + m)
            found[exponents] = sums[found.get(exponents, 0)][products[d]]
    return as_poly(found)


def poly_power(q, F, exponent):
    """The product of a polynomial with itself, exponent times."""
    found = number_alone(1)
    for _ in range(exponent):
        found = poly_times(q, found, F)
    return found


def degree(F):
    """The greatest i + j of a polynomial, -1 for zero."""
    return max([i + j for i, j, _ in F], default=-1)


def highest(F):
    """The highest part of a polynomial."""
    most = degree(F)
    return tuple([(i, j, c) for i, j, c in F if i + j == most])


def value(q, F, x, y):
    """The value of a polynomial at a point."""
    found = 0
    for i, j, c in F:
        found = plus(q, found, times(q, c, times(q, power(q, x, i), power(q, y, j))))
    return found


def slope(q, F, letter):
    """The slope of a polynomial along the letter "x" or "y"."""
    p = characteristic(q)
    # A sum of k ones is the remainder of k by p: the numbers below p are such sums.
    if letter == "x":
        found = {(i - 1, j): times(q, i % p, c) for i, j, c in F if i > 0}
    else:
        found = {(i, j - 1): times(q, j % p, c) for i, j, c in F if j > 0}
    return as_poly(found)


def powers_summed(q, factors, G):
    """The sum of the polynomials factors[k] times the k-th powers of G."""
    found = ()
    for factor in reversed(factors):
        found = poly_plus(q, poly_times(q, found, G), factor)
    return found


def put(q, F, pair):
    """The polynomial F with the polynomials of a pair in the place of its letters."""
    first, second = pair
    # rows[i][j] is the number of x^i y^j. The sums run over j and then over i, so that
    # the powers of the two polynomials, which are long, are not multiplied pair by pair.
    most = max([i for i, j, c in F], default=-1)
    rows = [[] for _ in range(most + 1)]
    for i, j, c in F:
        row = rows[i]
        while len(row) < j:
            row.append(())
        row.append(number_alone(c))
    return powers_summed(q, [powers_summed(q, row, second) for row in rows], first)
