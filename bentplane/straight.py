"""Straight maps (a, b, c, d, e, f): (x, y) goes to (a x + b y + c, d x + e y + f) [2.3]."""

from bentplane.fields import inverse, minus, opposite, plus, times

SAME = (1, 0, 0, 0, 1, 0)
SWAP = (0, 1, 0, 1, 0, 0)


def turn_by(number):
    """The turn by a number, as a straight map."""
    return (0, 1, 0, 1, number, 0)


def summed(q, a, x, b, y, c):
    """The number a x + b y + c."""
    return plus(q, plus(q, times(q, a, x), times(q, b, y)), c)


def straight_determinant(q, numbers):
    """The number a e - b d of six numbers."""
    a, b, _, d, e, _ = numbers
    return minus(q, times(q, a, e), times(q, b, d))


def straight_point(q, straight, point):
    """The point to which a straight map moves a point."""
    a, b, c, d, e, f = straight
    x, y = point
    return (summed(q, a, x, b, y, c), summed(q, d, x, e, y, f))


def straight_then(q, one, other):
    """The straight map that does the first one and then the second one."""
    a, b, c, d, e, f = one
    first = other[:3]
    second = other[3:]
    return (
        summed(q, first[0], a, first[1], d, 0),
        summed(q, first[0], b, first[1], e, 0),
        summed(q, first[0], c, first[1], f, first[2]),
        summed(q, second[0], a, second[1], d, 0),
        summed(q, second[0], b, second[1], e, 0),
        summed(q, second[0], c, second[1], f, second[2]),
    )


def straight_undone(q, straight):
    """The straight map that undoes a straight map."""
    a, b, c, d, e, f = straight
    share = inverse(q, straight_determinant(q, straight))
    less = opposite(q, share)
    turned = (times(q, e, share), times(q, b, less), 0, times(q, d, less), times(q, a, share), 0)
    back = straight_point(q, turned, (c, f))
    return (turned[0], turned[1], opposite(q, back[0]), turned[3], turned[4], opposite(q, back[1]))
