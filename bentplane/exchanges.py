"""Exchanges of the points: those of steps, rows of pieces for them, and pairs in between (part 11)."""

from math import lcm

from bentplane.errors import BadExchange
from bentplane.fields import characteristic, is_integer, opposite, order_of_number, plus, power, times
from bentplane.leastrows import row_by_step, step_by_row
from bentplane.oneletter import one_value
from bentplane.polys import as_poly
from bentplane.steps import look_at_steps
from bentplane.straight import SWAP, straight_undone
from bentplane.tables import PRODUCTS, SUMS
from bentplane.threerounds import row_of_even


def is_exchange(q, thing):
    """Whether any value is an exchange."""
    if not isinstance(thing, tuple) or not all([is_integer(part) for part in thing]):
        return False
    return sorted(thing) == list(range(q * q))


def look_at_exchange(q, exchange):
    """Raise BadExchange for any value that is no exchange."""
    if not is_exchange(q, exchange):
        raise BadExchange(exchange)


def points_and_piece(q, points, piece):
    """The points to which a piece moves some points."""
    sums = SUMS[q]
    sort, map_or_bend = piece
    if sort == "bend":
        values = [one_value(q, map_or_bend, y) for y in range(q)]
        return [(sums[x][values[y]], y) for x, y in points]
    a, b, c, d, e, f = map_or_bend
    by_a, by_b, by_d, by_e = [PRODUCTS[q][number] for number in (a, b, d, e)]
    return [(sums[sums[by_a[x]][by_b[y]]][c], sums[sums[by_d[x]][by_e[y]]][f]) for x, y in points]


def all_points(q):
    """The ascending list of all points."""
    return [(x, y) for x in range(q) for y in range(q)]


def points_moved(q, step):
    """The points to which a step moves all points, in their order."""
    found = all_points(q)
    for piece in row_by_step(step):
        found = points_and_piece(q, found, piece)
    return found


def exchange_by_step(q, step):
    """The exchange of a step."""
    return tuple([x * q + y for x, y in points_moved(q, step)])


def exchange_of(q, step):
    """The exchange of a step."""
    look_at_steps(q, [step])
    return exchange_by_step(q, step)


def rounds_of(exchange):
    """The list of the rounds of an exchange, each a list of point numbers that begins with the least one."""
    seen = set()
    found = []
    for first in range(len(exchange)):
        if first in seen:
            continue
        numbers = [first]
        while exchange[numbers[-1]] != first:
            numbers.append(exchange[numbers[-1]])
        for number in numbers:
            seen.add(number)
        found.append(numbers)
    return found


def exchange_is_even(exchange):
    """Whether an exchange is even."""
    # A round of n points is made by n - 1 exchanges of two points, each of which is odd.
    return (len(exchange) - len(rounds_of(exchange))) % 2 == 0


def is_even(q, exchange):
    """Whether an exchange is even."""
    look_at_exchange(q, exchange)
    return exchange_is_even(exchange)


def exchange_can_come(q, exchange):
    """Whether an exchange is that of some step."""
    return q == 2 or characteristic(q) != 2 or exchange_is_even(exchange)


def can_come(q, exchange):
    """Whether an exchange is that of some step."""
    look_at_exchange(q, exchange)
    return exchange_can_come(q, exchange)


def odd_map(q):
    """A straight map that moves the points by an odd exchange, over a field that is odd or 2."""
    if q == 2:
        return SWAP
    # On each line along x one round takes in all points but one: an odd exchange, an odd number of times.
    number = [a for a in range(1, q) if order_of_number(q, a) == q - 1][0]
    return (number, 0, 0, 0, 1, 0)


def row_for(q, exchange):
    """A row of pieces that moves the points as an exchange does; None if there is none."""
    look_at_exchange(q, exchange)
    if not exchange_can_come(q, exchange):
        return None
    row = ()
    left = exchange
    if not exchange_is_even(exchange):
        straight = odd_map(q)
        row = (("straight", straight),)
        # What is left is to do the undone map and then the exchange.
        back = points_and_piece(q, all_points(q), ("straight", straight_undone(q, straight)))
        left = tuple([exchange[x * q + y] for x, y in back])
    # The least row that does the same is shorter.
    return row_by_step(step_by_row(q, row + row_of_even(q, left)))


def round_lengths(q, exchange):
    """The ascending tuple, with repeats, of the lengths of the rounds of an exchange."""
    look_at_exchange(q, exchange)
    return tuple(sorted([len(numbers) for numbers in rounds_of(exchange)]))


def numbers_between(q, values):
    """The numbers of the one-letter polynomial of degree below q that has told values, the lowest power first."""
    # The number of x^i for i above 0 is the opposite of the sum of all values, each times the
    # power of its place with the exponent q - 1 - i.
    found = [values[0]]
    for i in range(1, q):
        total = 0
        for x, number in enumerate(values):
            total = plus(q, total, times(q, number, power(q, x, q - 1 - i)))
        found.append(opposite(q, total))
    return found


def poly_between(q, rows):
    """The polynomial with exponents below q whose value at (x, y) is rows[x][y]."""
    along_y = [numbers_between(q, row) for row in rows]
    columns = [numbers_between(q, [row[j] for row in along_y]) for j in range(q)]
    return as_poly({(i, j): columns[j][i] for i in range(q) for j in range(q)})


def pair_between(q, exchange):
    """The pair with exponents below q alone that moves the points as an exchange does."""
    look_at_exchange(q, exchange)
    rows = [exchange[x * q:x * q + q] for x in range(q)]
    first = poly_between(q, [[number // q for number in row] for row in rows])
    second = poly_between(q, [[number % q for number in row] for row in rows])
    return (first, second)


def point_order(q, step):
    """The least n from 1 on such that the n-th repeat of a step moves no point."""
    look_at_steps(q, [step])
    found = 1
    for numbers in rounds_of(exchange_by_step(q, step)):
        found = lcm(found, len(numbers))
    return found
