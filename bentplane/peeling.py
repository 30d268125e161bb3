"""Peeling: whether a pair is undoable, and the certificates that show it (part 3)."""

from bentplane.errors import BadPair
from bentplane.fields import inverse, opposite, times
from bentplane.leastrows import row_by_step, row_undone, step_by_row, step_undone
from bentplane.pairs import is_pair, is_row, is_straight, pair_and_piece, pair_and_row, pair_degree
from bentplane.polys import as_dict, degree, highest, poly_power, poly_scaled
from bentplane.steps import is_step, pair_by_step, step_degree
from bentplane.straight import SWAP

# Above this degree is_undoable looks no further.
GREATEST_DEGREE = 36


def look_at_pair(q, pair):
    """Raise BadPair for any value that is no pair."""
    if not is_pair(q, pair):
        raise BadPair(pair)


def lowering(q, F, G):
    """(number, exponent) such that G, less number times F^exponent, is lowered; None if F does not lower it."""
    m = degree(F)
    n = degree(G)
    if m < 1 or n < m or n % m != 0:
        return None
    raised = poly_power(q, highest(F), n // m)
    part = highest(G)
    number = times(q, part[0][2], inverse(q, raised[0][2]))
    if poly_scaled(q, raised, number) != part:
        return None
    return (number, n // m)


def lowered_by(q, pair):
    """The names "F" and "G" of the polynomials by which a pair is lowered."""
    look_at_pair(q, pair)
    F, G = pair
    ways = (("F", lowering(q, F, G)), ("G", lowering(q, G, F)))
    return tuple([name for name, found in ways if found is not None])


def lowering_piece(q, number, exponent):
    """The piece that takes number times the power of y from x."""
    less = opposite(q, number)
    if exponent == 1:
        return ("straight", (1, less, 0, 0, 1, 0))
    return ("bend", (0,) * exponent + (less,))


def lowering_row(q, pair):
    """A row of pieces that lowers a pair; empty for one that is not lowered."""
    F, G = pair
    found = lowering(q, G, F)
    if found is not None:
        return (lowering_piece(q, found[0], found[1]),)
    found = lowering(q, F, G)
    if found is not None:
        swap = ("straight", SWAP)
        return (swap, lowering_piece(q, found[0], found[1]), swap)
    return ()


def peeled(q, pair):
    """What is left of a pair when it is lowered as often as can be, and the row that does this."""
    core = pair
    row = ()
    pieces = lowering_row(q, core)
    while pieces != ():
        core = pair_and_row(q, core, pieces)
        row = row + pieces
        pieces = lowering_row(q, core)
    return (core, row)


def straight_of_pair(q, pair):
    """The straight map that makes a pair; None if the pair is not straight."""
    if pair_degree(pair) > 1:
        return None
    numbers = [as_dict(F).get(at, 0) for F in pair for at in ((1, 0), (0, 1), (0, 0))]
    straight = tuple(numbers)
    return straight if is_straight(q, straight) else None


def judge_pair(q, pair):
    """A certificate that a pair is made by a step, or that it sticks."""
    look_at_pair(q, pair)
    core, row = peeled(q, pair)
    straight = straight_of_pair(q, core)
    if straight is None:
        # The least row that does the same is shorter, and no bend in it is taken back later.
        return ("stuck", row_by_step(step_by_row(q, row)))
    return ("step", step_by_row(q, (("straight", straight), *row_undone(q, row))))


def makes_pair(q, step, pair):
    """Whether a step makes a pair."""
    # Only if the degrees agree the pair of the step is worked out: it may be too great otherwise.
    return step_degree(step) == pair_degree(pair) and pair_by_step(q, step) == pair


def is_raised(pair, piece):
    """Whether a piece, put behind a pair, makes the degree of its first polynomial greater as a bend."""
    sort, bend = piece
    F, G = pair
    return sort == "bend" and degree(G) > 0 and (len(bend) - 1) * degree(G) > degree(F)


def sticks_behind(q, pair, row):
    """Whether a pair and then a row of pieces make a pair that is neither straight nor lowered."""
    core, path = peeled(q, pair)
    if straight_of_pair(q, core) is not None:
        return False
    # The same pair is made by the core and then the least row that goes back and then along
    # the row. Once a bend of a least row raises the degree, the first polynomial has the highest
    # part of a power of the second one; each later bend raises it again; and the straight map
    # at the end leaves a pair that is lowered. So degrees above that of the core never come up.
    for piece in row_by_step(step_by_row(q, row_undone(q, path) + row)):
        if is_raised(core, piece):
            return False
        core = pair_and_piece(q, core, piece)
    return lowering_row(q, core) == ()


def pair_holds(q, pair, thing):
    """Whether any value is a right certificate for a pair."""
    look_at_pair(q, pair)
    if not isinstance(thing, tuple) or len(thing) != 2:
        return False
    word, shown = thing
    if word == "step":
        return is_step(q, shown) and makes_pair(q, shown, pair)
    return word == "stuck" and is_row(q, shown) and sticks_behind(q, pair, shown)


def is_undoable(q, thing):
    """Whether any value is an undoable pair."""
    if not is_pair(q, thing) or pair_degree(thing) > GREATEST_DEGREE:
        return False
    return straight_of_pair(q, peeled(q, thing)[0]) is not None


def undoing_pair(q, pair):
    """The pair that undoes a pair; None if there is none."""
    word, shown = judge_pair(q, pair)
    if word == "stuck":
        return None
    return pair_by_step(q, step_undone(q, shown))
