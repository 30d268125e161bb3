"""How many steps there are with told degrees, and the number of each of them (part 5)."""

from bentplane.fields import inverse, times
from bentplane.leastrows import NO_TURN
from bentplane.steps import look_at_steps

LEAST_DEGREE = 2
GREATEST_DEGREE = 6


def many_straight(q):
    """How many straight maps there are."""
    return (q * q - 1) * (q * q - q) * q * q


def many_bends(q, degree):
    """How many bends of a degree there are."""
    found = q - 1
    for _ in range(degree - 2):
        found *= q
    return found


def many_steps(q, degrees):
    """How many steps have told degrees."""
    found = many_straight(q)
    for at, degree in enumerate(degrees):
        # Ahead of the first bend there may be no turn, ahead of the others there is one.
        found *= (q + 1 if at == 0 else q) * many_bends(q, degree)
    return found


def many_with(q, degrees, determinant):
    """How many steps with told degrees have a told number, which is not 0, as their determinant."""
    # Each number is the determinant of just as many steps as any other one.
    return many_steps(q, degrees) // (q - 1)


def many_of_degree(q, degree):
    """How many steps make a pair of a degree."""
    if degree == 1:
        return many_straight(q)
    return many_straight(q) * (q + 1) * many_bent_rows(q, degree) // q


def many_bent_rows(q, degree):
    """How many rows of bends, each with a turn ahead of it, have degrees whose product is told."""
    if degree == 1:
        return 1
    firsts = [first for first in range(LEAST_DEGREE, GREATEST_DEGREE + 1) if degree % first == 0]
    return sum([q * many_bends(q, first) * many_bent_rows(q, degree // first) for first in firsts])


def step_number(q, step):
    """The position of a step among all steps with the same degrees."""
    look_at_steps(q, [step])
    start, bends, turns, last = step
    found = start - NO_TURN
    for bend in bends:
        found = found * many_bends(q, len(bend) - 1) + bend_number(q, bend)
    for turn in turns:
        found = found * q + turn
    return found * many_straight(q) + straight_number(q, last)


def bend_number(q, bend):
    """The position of a bend among all bends of its degree."""
    found = 0
    for number in bend[2:-1]:
        found = found * q + number
    return found * (q - 1) + bend[-1] - 1


def straight_number(q, straight):
    """The position of a straight map among all of them."""
    a, b, c, d, e, f = straight
    # The first two numbers are not both 0.
    found = (a * q + b - 1) * q + c
    return (found * (q * q - q) + second_number(q, a, b, d, e)) * q + f


def second_number(q, a, b, d, e):
    """The position of (d, e) among all such two numbers that make a straight map with a and b."""
    if a == 0:
        return (d - 1) * q + e
    barred = barred_number(q, a, b, d)
    return d * (q - 1) + (e - 1 if e > barred else e)


def barred_number(q, a, b, d):
    """The only number e for which a e - b d is 0, a being other than 0."""
    return times(q, times(q, b, d), inverse(q, a))


def step_at(q, degrees, number):
    """The step with a number among all steps with told degrees."""
    left, at = divmod(number, many_straight(q))
    last = straight_at(q, at)
    turns = []
    for _ in degrees[1:]:
        left, turn = divmod(left, q)
        turns.append(turn)
    bends = []
    for degree in reversed(degrees):
        left, at = divmod(left, many_bends(q, degree))
        bends.append(bend_at(q, degree, at))
    return (NO_TURN + left, tuple(bends[::-1]), tuple(turns[::-1]), last)


def bend_at(q, degree, number):
    """The bend of a degree with a number among all of these."""
    left, highest = divmod(number, q - 1)
    numbers = [highest + 1]
    for _ in range(degree - 2):
        left, lower = divmod(left, q)
        numbers.append(lower)
    return (0, 0, *numbers[::-1])


def straight_at(q, number):
    """The straight map with a number among all of them."""
    left, f = divmod(number, q)
    left, second = divmod(left, q * q - q)
    left, c = divmod(left, q)
    a, b = divmod(left + 1, q)
    d, e = second_at(q, a, b, second)
    return (a, b, c, d, e, f)


def second_at(q, a, b, number):
    """The numbers (d, e) at a position among all that make a straight map with a and b."""
    if a == 0:
        return (number // q + 1, number % q)
    d, e = divmod(number, q - 1)
    return (d, e + 1 if e >= barred_number(q, a, b, d) else e)
