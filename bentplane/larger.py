"""Larger fields: lifted numbers and steps, and points that steps move or leave where they are (part 12)."""

from bentplane.exchanges import all_points, exchange_by_step, points_moved, rounds_of
from bentplane.steps import look_at_steps

ABOVE = {2: (4, 8, 16), 3: (9,), 4: (16,)}
# The numbers of 4, lifted to 16; all other numbers that are lifted stay as they are.
FROM_FOUR = (0, 1, 6, 7)


def is_above(q, r):
    """Whether a field number r is above q."""
    return r in ABOVE.get(q, ())


def number_lifted(q, r, number):
    """A number of q, lifted to r, which is above q."""
    return FROM_FOUR[number] if q == 4 else number


def numbers_lifted(q, r, numbers):
    """A tuple of numbers of q, lifted to r."""
    return tuple([number_lifted(q, r, number) for number in numbers])


def lifted(q, r, step):
    """A step of q, lifted to r."""
    start, bends, turns, last = step
    # A start below 0 is no number: it stands for no turn.
    lifted_start = number_lifted(q, r, start) if start >= 0 else start
    lifted_bends = tuple([numbers_lifted(q, r, bend) for bend in bends])
    return (lifted_start, lifted_bends, numbers_lifted(q, r, turns), numbers_lifted(q, r, last))


def step_lifted(q, r, step):
    """A step of q, lifted to r, which is above q."""
    look_at_steps(q, [step])
    return lifted(q, r, step)


def still_points(q, step):
    """The ascending tuple of the points that stay still."""
    look_at_steps(q, [step])
    return tuple([point for point, moved in zip(all_points(q), points_moved(q, step)) if point == moved])


def point_after_repeat(q, step, point, n):
    """Where the n-th repeat of a step moves a point."""
    look_at_steps(q, [step])
    exchange = exchange_by_step(q, step)
    number = point[0] * q + point[1]
    numbers = [number]
    while exchange[numbers[-1]] != number:
        numbers.append(exchange[numbers[-1]])
    return divmod(numbers[n % len(numbers)], q)


def many_still(q, step, n):
    """How many points the n-th repeat of a step does not move."""
    look_at_steps(q, [step])
    lengths = [len(numbers) for numbers in rounds_of(exchange_by_step(q, step))]
    return sum([length for length in lengths if n % length == 0])


def first_parted(q, one, other):
    """The least point that two steps move to unlike points; None if there is none."""
    for point, first, second in zip(all_points(q), points_moved(q, one), points_moved(q, other)):
        if first != second:
            return point
    return None


def parted_point(q, one, other):
    """The least (r, point), r being q or above it, such that two steps part at this point of r; or None."""
    look_at_steps(q, [one, other])
    point = first_parted(q, one, other)
    if point is not None:
        return (q, point)
    for r in ABOVE.get(q, ()):
        point = first_parted(r, lifted(q, r, one), lifted(q, r, other))
        if point is not None:
            return (r, point)
    return None
