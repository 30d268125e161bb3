"""Pairs of polynomials, which move points [2.2], and rows of pieces, which make pairs [2.3]."""

from bentplane.errors import BadPiece
from bentplane.oneletter import are_numbers, is_one_letter, one_value
from bentplane.fields import plus
from bentplane.polys import (
    degree, is_poly, number_alone, poly_minus, poly_plus, poly_scaled, poly_times, powers_summed, put, slope, value,
)
from bentplane.straight import straight_determinant, straight_point

NOTHING_PAIR = (((1, 0, 1),), ((0, 1, 1),))


def is_pair(q, thing):
    """Whether any value is a pair of polynomials of q."""
    return isinstance(thing, tuple) and len(thing) == 2 and is_poly(q, thing[0]) and is_poly(q, thing[1])


def pair_then(q, one, other):
    """The pair that does one pair and then the other one."""
    return (put(q, other[0], one), put(q, other[1], one))


def pair_degree(pair):
    """The greater one of the degrees of the two polynomials."""
    return max(degree(pair[0]), degree(pair[1]))


def determinant(q, pair):
    """The determinant of a pair, a polynomial."""
    first, second = pair
    down = poly_times(q, slope(q, first, "x"), slope(q, second, "y"))
    across = poly_times(q, slope(q, first, "y"), slope(q, second, "x"))
    return poly_minus(q, down, across)


def point_by_pair(q, pair, point):
    """The point to which a pair moves a point."""
    x, y = point
    return (value(q, pair[0], x, y), value(q, pair[1], x, y))


def is_straight(q, thing):
    """Whether any value is a straight map of q."""
    return are_numbers(q, thing) and len(thing) == 6 and straight_determinant(q, thing) != 0


def is_bend(q, thing):
    """Whether any value is a bend of q."""
    return is_one_letter(q, thing) and 3 <= len(thing) <= 7 and thing[0] == 0 and thing[1] == 0


def is_piece(q, thing):
    """Whether any value is a piece of q."""
    if not isinstance(thing, tuple) or len(thing) != 2:
        return False
    sort, piece = thing
    return (sort == "straight" and is_straight(q, piece)) or (sort == "bend" and is_bend(q, piece))


def is_row(q, thing):
    """Whether any value is a row of pieces of q."""
    return isinstance(thing, tuple) and all([is_piece(q, piece) for piece in thing])


def look_at_row(q, row):
    """Raise BadPiece for any value that is no row of pieces."""
    if not isinstance(row, tuple):
        raise BadPiece(0)
    for place, piece in enumerate(row):
        if not is_piece(q, piece):
            raise BadPiece(place)


def straight_of_polys(q, F, G, a, b, c):
    """The polynomial a F + b G + c."""
    return poly_plus(q, poly_plus(q, poly_scaled(q, F, a), poly_scaled(q, G, b)), number_alone(c))


def pair_and_piece(q, pair, piece):
    """The pair that does a pair and then a piece."""
    first, second = pair
    sort, map_or_bend = piece
    if sort == "bend":
        bent = powers_summed(q, [number_alone(c) for c in map_or_bend], second)
        return (poly_plus(q, first, bent), second)
    a, b, c, d, e, f = map_or_bend
    return (straight_of_polys(q, first, second, a, b, c), straight_of_polys(q, first, second, d, e, f))


def pair_and_row(q, pair, row):
    """The pair that does a pair and then the pieces of a row."""
    found = pair
    for piece in row:
        found = pair_and_piece(q, found, piece)
    return found


def pair_by_row(q, row):
    """The pair that a row of pieces makes."""
    look_at_row(q, row)
    return pair_and_row(q, NOTHING_PAIR, row)


def point_and_row(q, point, row):
    """The point to which the pieces of a row move a point."""
    found = point
    for sort, map_or_bend in row:
        if sort == "bend":
            x, y = found
            found = (plus(q, x, one_value(q, map_or_bend, y)), y)
        else:
            found = straight_point(q, map_or_bend, found)
    return found


def point_by_row(q, row, point):
    """The point to which a row of pieces moves a point."""
    look_at_row(q, row)
    return point_and_row(q, point, row)
