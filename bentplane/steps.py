"""Steps as least rows (start, bends, turns, last): rows, products, repeats, points, pairs (part 4)."""

from bentplane.errors import BadStep
from bentplane.fields import is_integer, opposite
from bentplane.leastrows import (
    NO_TURN, NOTHING, row_by_step, step_by_row, step_repeated, step_then, step_undone,
)
from bentplane.oneletter import are_numbers
from bentplane.pairs import NOTHING_PAIR, is_bend, is_straight, look_at_row, pair_and_row, point_and_row
from bentplane.polys import as_dict
from bentplane.straight import straight_determinant


def is_step(q, thing):
    """Whether any value is a step of q."""
    if not isinstance(thing, tuple) or len(thing) != 4:
        return False
    start, bends, turns, last = thing
    if not is_integer(start) or not NO_TURN <= start < q:
        return False
    if not isinstance(bends, tuple) or not all([is_bend(q, bend) for bend in bends]):
        return False
    if len(bends) == 0 and start != NO_TURN:
        return False
    return are_numbers(q, turns) and len(turns) == max(len(bends) - 1, 0) and is_straight(q, last)


def look_at_steps(q, things):
    """Raise BadStep with the first of some values that is no step."""
    for thing in things:
        if not is_step(q, thing):
            raise BadStep(thing)


def step_of_row(q, row):
    """The step that a row of pieces makes."""
    look_at_row(q, row)
    return step_by_row(q, row)


def nothing():
    """The step nothing."""
    return NOTHING


def row_of(q, step):
    """The row of pieces of a step."""
    look_at_steps(q, [step])
    return row_by_step(step)


def product(q, one, other):
    """The step that does the first step and then the second one."""
    look_at_steps(q, [one, other])
    return step_then(q, one, other)


def undoing(q, step):
    """The step that undoes a step."""
    look_at_steps(q, [step])
    return step_undone(q, step)


def repeat(q, step, n):
    """The n-th repeat of a step; its undoing is repeated if n is below 0."""
    look_at_steps(q, [step])
    repeated = step if n >= 0 else step_undone(q, step)
    return step_repeated(q, repeated, abs(n))


def point_after(q, step, point):
    """The point to which a step moves a point."""
    look_at_steps(q, [step])
    return point_and_row(q, point, row_by_step(step))


def bend_degrees(step):
    """The degrees of the bends of a step, in order."""
    return tuple([len(bend) - 1 for bend in step[1]])


def step_degree(step):
    """The degree of the pair that a step makes."""
    found = 1
    for number in bend_degrees(step):
        found *= number
    return found


def degrees_of(q, step):
    """The degrees of a step."""
    look_at_steps(q, [step])
    return bend_degrees(step)


def determinant_of(q, step):
    """The determinant of a step, a number."""
    look_at_steps(q, [step])
    start, _, turns, last = step
    found = straight_determinant(q, last)
    # Each turn has the determinant -1, and each bend has 1.
    many = len(turns) if start == NO_TURN else len(turns) + 1
    return opposite(q, found) if many & 1 else found


def pair_by_step(q, step):
    """The pair that a step makes."""
    return pair_and_row(q, NOTHING_PAIR, row_by_step(step))


def pair_of(q, step):
    """The pair that a step makes."""
    look_at_steps(q, [step])
    return pair_by_step(q, step)


def parting(q, one, other):
    """The least (letter, i, j) at which the pairs of two steps part; None for equal steps."""
    look_at_steps(q, [one, other])
    if one == other:
        return None
    first = pair_by_step(q, one)
    second = pair_by_step(q, other)
    return min([(letter, *at) for letter, F, G in zip(("F", "G"), first, second) for at in parted_exponents(F, G)])


def parted_exponents(F, G):
    """The exponents (i, j) at which two polynomials have unlike coefficients."""
    first = as_dict(F)
    second = as_dict(G)
    exponents = list(first) + [at for at in second if at not in first]
    return [at for at in exponents if first.get(at, 0) != second.get(at, 0)]
