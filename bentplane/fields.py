"""The ten fields: their numbers are the integers from 0 to q - 1 [1.1]."""

from bentplane.tables import PRODUCTS, SUMS

CHARACTERISTICS = {2: 2, 3: 3, 4: 2, 5: 5, 7: 7, 8: 2, 9: 3, 11: 11, 13: 13, 16: 2}


def is_integer(thing):
    """Whether any value is an integer; a bool is none here."""
    return isinstance(thing, int) and not isinstance(thing, bool)


def is_field(thing):
    """Whether any value is a field number."""
    return is_integer(thing) and thing in CHARACTERISTICS


def characteristic(q):
    """The prime number that divides q."""
    return CHARACTERISTICS[q]


def is_number(q, thing):
    """Whether any value is a number of q."""
    return is_integer(thing) and 0 <= thing < q


def plus(q, a, b):
    """The sum of two numbers."""
    return SUMS[q][a][b]


def minus(q, a, b):
    """The difference of two numbers."""
    return SUMS[q][a][opposite(q, b)]


def times(q, a, b):
    """The product of two numbers."""
    return PRODUCTS[q][a][b]


def opposite(q, a):
    """The number whose sum with a is 0."""
    return SUMS[q][a].index(0)


def inverse(q, a):
    """The number whose product with a, which is not 0, is 1."""
    return PRODUCTS[q][a].index(1)


def power(q, a, exponent):
    """The product of a with itself, exponent times; 1 for the exponent 0."""
    found = 1
    square = a
    while exponent > 0:
        if exponent & 1:
            found = times(q, found, square)
        square = times(q, square, square)
        exponent = exponent >> 1
    return found


def order_of_number(q, a):
    """The least exponent from 1 on whose power of a, which is not 0, is 1."""
    order = 1
    found = a
    while found != 1:
        found = times(q, found, a)
        order += 1
    return order
