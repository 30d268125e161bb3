"""Polynomials that a family keeps, and sums and products over rounds of repeats (part 13)."""

from bentplane.errors import NotResting
from bentplane.families import look_at_family
from bentplane.fields import inverse, opposite, times
from bentplane.kinds import core_order, is_growing_core, shortened
from bentplane.leastrows import NOTHING, row_by_step, step_and_row
from bentplane.polys import as_poly, degree, is_poly, number_alone, poly_minus, poly_plus, poly_times, put
from bentplane.steps import look_at_steps, pair_by_step, step_degree
from bentplane.tables import PRODUCTS, SUMS

# No right polynomial is passed whose degree, times that of a step, is above this.
GREATEST_DEGREE = 36


def exponents_up_to(n):
    """The exponents (i, j) with i + j up to n, in order of i + j and then of i."""
    return [(i, total - i) for total in range(n + 1) for i in range(total + 1)]


def terms_put(q, pair, exponents):
    """For each of all exponents up to some sum, in order, x^i y^j with a pair put into it."""
    first, second = pair
    found = {}
    for i, j in exponents:
        if i > 0:
            found[i, j] = poly_times(q, found[i - 1, j], first)
        elif j > 0:
            found[i, j] = poly_times(q, found[i, j - 1], second)
        else:
            found[i, j] = number_alone(1)
    return found


def change_of_term(q, puts, i, j):
    """A dict that tells how some steps change x^i y^j, the terms put for each step being told; empty if they do not."""
    same = ((i, j, 1),)
    return {
        (at, *item[:2]): item[2]
        for at, terms in enumerate(puts) for item in poly_minus(q, terms[i, j], same)
    }


def lessened(q, row, other, number):
    """A dict of numbers other than 0, less another one times a number."""
    sums = SUMS[q]
    scale = PRODUCTS[q][opposite(q, number)]
    found = {at: row[at] for at in row}
    for at, c in other.items():
        found[at] = sums[found.get(at, 0)][scale[c]]
    return {at: c for at, c in found.items() if c != 0}


def kept_base(q, family, n):
    """The base of the polynomials of degree at most n that a family keeps."""
    look_at_family(q, family)
    exponents = exponents_up_to(n)
    puts = [terms_put(q, pair_by_step(q, step), exponents) for step in family]
    base = []
    # Sums of terms that are changed, each told with its change and with an item of the change in
    # which no later one has a part.
    changed = []
    for i, j in exponents:
        total, change = ({(i, j): 1}, change_of_term(q, puts, i, j))
        for other_total, other_change, item in changed:
            number = times(q, change.get(item, 0), inverse(q, other_change[item]))
            if number != 0:
                total = lessened(q, total, other_total, number)
                change = lessened(q, change, other_change, number)
        if len(change) > 0:
            changed.append((total, change, min(list(change))))
        else:
            # Behind its leading term it has only such terms as lead no item of the base.
            base.append(as_poly(total))
    return tuple(base)


def is_kept_by(q, step, P):
    """Whether a step keeps a polynomial."""
    return degree(P) * step_degree(step) <= GREATEST_DEGREE and put(q, P, pair_by_step(q, step)) == P


def has_kept(q, family, thing):
    """Whether any value is a polynomial that a family keeps."""
    look_at_family(q, family)
    return is_poly(q, thing) and all([is_kept_by(q, step, thing) for step in family])


def put_for_repeats(q, step, P):
    """The polynomials that come of P if the pairs of all repeats of a step that rests are put into it."""
    look_at_steps(q, [step])
    core = shortened(q, step)[0]
    if is_growing_core(core):
        raise NotResting(step)
    row = row_by_step(step)
    repeated = NOTHING
    found = []
    for _ in range(core_order(q, core)):
        found.append(put(q, P, pair_by_step(q, repeated)))
        repeated = step_and_row(q, repeated, row)
    return found


def round_sum(q, step, P):
    """The sum of P with the pairs of all repeats of a step that rests put into it."""
    found = ()
    for part in put_for_repeats(q, step, P):
        found = poly_plus(q, found, part)
    return found


def round_product(q, step, P):
    """The product of P with the pairs of all repeats of a step that rests put into it."""
    found = number_alone(1)
    for part in put_for_repeats(q, step, P):
        found = poly_times(q, found, part)
    return found
