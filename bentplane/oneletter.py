"""Polynomials in one letter: tuples of numbers, the lowest power first [1.2]."""

from bentplane.fields import is_number, plus, times


def are_numbers(q, thing):
    """Whether any value is a tuple of numbers of q."""
    return isinstance(thing, tuple) and all([is_number(q, part) for part in thing])


def is_one_letter(q, thing):
    """Whether any value is a one-letter polynomial of q."""
    return are_numbers(q, thing) and (len(thing) == 0 or thing[-1] != 0)


def trimmed(numbers):
    """The one-letter polynomial with these numbers, the lowest power first."""
    size = len(numbers)
    while size > 0 and numbers[size - 1] == 0:
        size -= 1
    return tuple(numbers[:size])


def one_plus(q, f, g):
    """The sum of two one-letter polynomials."""
    if len(f) < len(g):
        return one_plus(q, g, f)
    found = list(f)
    for k, number in enumerate(g):
        found[k] = plus(q, found[k], number)
    return trimmed(found)


def one_scaled(q, f, number):
    """A one-letter polynomial times a number."""
    return trimmed([times(q, part, number) for part in f])


def one_times(q, f, g):
    """The product of two one-letter polynomials."""
    found = [0] * (len(f) + len(g))
    for i, a in enumerate(f):
        for j, b in enumerate(g):
            found[i + j] = plus(q, found[i + j], times(q, a, b))
    return trimmed(found)


def one_value(q, f, number):
    """The value of a one-letter polynomial at a number."""
    found = 0
    for part in reversed(f):
        found = plus(q, times(q, found, number), part)
    return found


def one_put(q, f, g):
    """The polynomial f with g in the place of its letter."""
    found = ()
    for part in reversed(f):
        found = one_plus(q, one_times(q, found, g), trimmed([part]))
    return found
