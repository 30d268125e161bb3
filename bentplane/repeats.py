"""Degrees of all repeats, and far repeats of steps that rest [6.4]."""

from bentplane.errors import NotResting
from bentplane.kinds import core_order, is_growing_core, is_resting_core, seen_by, shortened
from bentplane.leastrows import step_repeated, step_undone
from bentplane.steps import bend_degrees, look_at_steps

# The exponents of 2, 3 and 5 in the degree of a bend.
EXPONENTS = {2: (1, 0, 0), 3: (0, 1, 0), 4: (2, 0, 0), 5: (0, 0, 1), 6: (1, 1, 0)}
NO_EXPONENTS = (0, 0, 0)


def degree_exponents(step):
    """The exponents of 2, 3 and 5 in the degree of the pair of a step."""
    found = list(NO_EXPONENTS)
    for degree in bend_degrees(step):
        for at, exponent in enumerate(EXPONENTS[degree]):
            found[at] = found[at] + exponent
    return tuple(found)


def growth(q, step):
    """The exponents (a, b, c) of 2, 3 and 5 in the number by which the degrees of repeats grow."""
    look_at_steps(q, [step])
    core = shortened(q, step)[0]
    return degree_exponents(core) if is_growing_core(core) else NO_EXPONENTS


def resting_repeat(q, core, change, n):
    """The n-th repeat of a step that rests and that is seen as a core by a change."""
    found = step_repeated(q, core, n % core_order(q, core))
    return seen_by(q, found, step_undone(q, change))


def repeat_degree(q, step, n):
    """The exponents (a, b, c) of 2, 3 and 5 in the degree of the n-th repeat of a step."""
    look_at_steps(q, [step])
    core, change = shortened(q, step)
    if is_resting_core(core):
        return degree_exponents(resting_repeat(q, core, change, n))
    if n == 0:
        return NO_EXPONENTS
    first = degree_exponents(step)
    more = degree_exponents(core)
    return tuple([exponent + (abs(n) - 1) * other for exponent, other in zip(first, more)])


def far_repeat(q, step, n):
    """The n-th repeat of a step that rests."""
    look_at_steps(q, [step])
    core, change = shortened(q, step)
    if is_growing_core(core):
        raise NotResting(step)
    return resting_repeat(q, core, change, n)
