"""Rows of pieces that move just three points round, and even exchanges as rows of such ones [11.2]."""

from bentplane.fields import minus, opposite
from bentplane.oneletter import trimmed
from bentplane.straight import SWAP, straight_determinant, straight_undone


def bending_row(numbers):
    """A row of pieces that moves (x, y) to (x + f(y), y), the numbers of f being told, the lowest power first."""
    straight = (1, numbers[1], numbers[0], 0, 1, 0)
    bend = trimmed((0, 0) + numbers[2:])
    row = (("straight", straight),)
    return row if bend == () else (("bend", bend), *row)


def shifting_row(q, number):
    """A row of pieces that moves just the points with y = 0, each by a number along x."""
    # The number times 1 - y^(q - 1).
    less = opposite(q, number)
    return bending_row((number,) + (0,) * (q - 2) + (less,))


def corner_row(q):
    """A row of pieces that moves (-1, 0) to (0, 0), that to (0, -1), and that to (-1, 0), and no other point."""
    # Shifts along y = 0 and along x = 0 have only the point (0, 0) in common. So the one, the other
    # one, and then the two undone move just three points.
    swap = (("straight", SWAP),)
    ahead = shifting_row(q, 1)
    back = shifting_row(q, opposite(q, 1))
    return ahead + swap + ahead + swap + back + swap + back + swap


def map_to_points(q, points):
    """The six numbers of the map that moves (-1, 0), (0, 0) and (0, -1) to three points in a row."""
    (x, y), (first_x, first_y), (other_x, other_y) = points[1], points[0], points[2]
    return (minus(q, x, first_x), minus(q, x, other_x), x, minus(q, y, first_y), minus(q, y, other_y), y)


def point_of_number(q, number):
    """The point with a point number."""
    return divmod(number, q)


def are_on_a_line(q, numbers):
    """Whether the three points with these point numbers are on a line."""
    points = [point_of_number(q, number) for number in numbers]
    return straight_determinant(q, map_to_points(q, points)) == 0


def round_row(q, corner, numbers):
    """A row of pieces that moves three points, not on a line, round: each to the next one."""
    straight = map_to_points(q, [point_of_number(q, number) for number in numbers])
    return (("straight", straight_undone(q, straight)), *corner, ("straight", straight))


def rounds_off_lines(q, numbers):
    """One round of three points, or two rounds that make it, whose points are not on a line."""
    if not are_on_a_line(q, numbers):
        return [numbers]
    first, second, third = numbers
    fitting = [number for number in range(q * q) if not are_on_a_line(q, (first, second, number))]
    return [(first, second, fitting[0]), (first, fitting[0], third)]


def three_rounds(exchange):
    """A list of rounds of three points that make an even exchange, one after the other."""
    left = list(exchange)
    found = []
    for first in range(len(exchange)):
        # Each round brings a point to its place; the rest of the exchange is left for those behind.
        while left[first] != first:
            second = left[first]
            third = left[second]
            if third == first:
                third = [n for n in range(len(exchange)) if left[n] != n and n != first and n != second][0]
            found.append((first, second, third))
            left[first], left[second], left[third] = left[third], left[first], left[second]
    return found


def row_of_even(q, exchange):
    """A row of pieces that moves the points as an even exchange does."""
    corner = corner_row(q)
    rounds = [numbers for three in three_rounds(exchange) for numbers in rounds_off_lines(q, three)]
    return tuple([piece for numbers in rounds for piece in round_row(q, corner, numbers)])
