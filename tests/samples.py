"""Things to try: any values, right things with parts spoilt, and things drawn by lot from a told seed."""

import random
from copy import deepcopy

from tests import plain, reference

ODD_VALUES = (
    None, True, False, 0, 1, 2, 3, -1, -2, 5, 16, 17, 10 ** 39, -(10 ** 39), "", "F", "0", "bend", "straight", "step",
    "a" * 2000, (), [], {}, ((),), [()], {"a": (1, 2)}, (0,), (1,), (True,), (0, 0, True), [0, 0, 1], (0, 0, 1),
    (0, 1, 1), ((0, 1, 1),), (((1, 0, 1),), ((0, 1, 1),)), (1, 0, 0, 0, 1, 0), [1, 0, 0, 0, 1, 0],
    ("bend", (0, 0, 1)), (("bend", (0, 0, 1)),), ("straight", (1, 0, 0, 0, 1, 0)), ("stuck", ()), ("step", None),
    (-1, (), (), (1, 0, 0, 0, 1, 0)), (0, (), (), (1, 0, 0, 0, 1, 0)), (None,) * 4, (1,) * 3000, "a\nb",
)


def deep_value():
    found = 1
    for _ in range(12):
        found = (found,)
    return found


def odd_values():
    return [*ODD_VALUES, deep_value(), list(range(20)), {1: {2: [3]}}]


SPOILERS = (None, True, False, -1, -2, 0, 1, 2, 10 ** 39, "", "bend", (), [], ((),), {}, (0, 0, 1), ((1, 0, 1),))


def spoilt(thing, draw, many):
    """So many copies of something, each with a part replaced, left out, exchanged or repeated."""
    return [spoilt_once(thing, draw) for _ in range(many)]


def spoilt_once(thing, draw):
    if isinstance(thing, tuple) and thing and draw.random() < 0.8:
        at = draw.randrange(len(thing))
        way = draw.randrange(8)
        if way == 0:
            return thing[:at] + thing[at + 1:]
        if way == 1:
            return thing[:at] + (thing[at],) + thing[at:]
        if way == 2:
            other = draw.randrange(len(thing))
            parts = list(thing)
            parts[at], parts[other] = parts[other], parts[at]
            return tuple(parts)
        return thing[:at] + (spoilt_once(thing[at], draw),) + thing[at + 1:]
    if isinstance(thing, tuple) and draw.random() < 0.3:
        return list(thing)
    if type(thing) is int and draw.random() < 0.5:
        return draw.choice((bool(thing), thing + 1, thing - 1, -thing, 0, thing + 16, str(thing)))
    return deepcopy(draw.choice(SPOILERS))


def drawer(*seed):
    return random.Random(repr(seed))


def number(q, draw):
    return draw.randrange(q)


def one_letter(q, draw, degree):
    """A one-letter polynomial of just this degree, zero for -1."""
    if degree < 0:
        return ()
    return tuple(draw.randrange(q) for _ in range(degree)) + (draw.randrange(1, q),)


def straight(q, draw):
    while True:
        found = tuple(draw.randrange(q) for _ in range(6))
        if reference.is_straight(q, found):
            return found


def straight_of_any_sort(q, draw):
    """Straight maps of which many have d = 0, are turns, or are the map that moves nothing."""
    way = draw.randrange(5)
    if way == 0:
        return (0, 1, 0, 1, draw.randrange(q), 0)
    if way == 1:
        a, e = draw.randrange(1, q), draw.randrange(1, q)
        return (a, draw.randrange(q), draw.randrange(q), 0, e, draw.randrange(q))
    if way == 2:
        return draw.choice(((1, 0, 0, 0, 1, 0), (1, 0, draw.randrange(q), 0, 1, 0), (1, draw.randrange(q), 0, 0, 1, 0)))
    return straight(q, draw)


def bend(q, draw, degree=None):
    if degree is None:
        degree = draw.randrange(2, 7)
    middle = tuple(draw.randrange(q) for _ in range(degree - 2))
    return (0, 0) + middle + (draw.randrange(1, q),)


def piece(q, draw):
    if draw.random() < 0.5:
        return ("straight", straight_of_any_sort(q, draw))
    return ("bend", bend(q, draw))


def row(q, draw, many):
    return tuple(piece(q, draw) for _ in range(many))


def row_of_degree(q, draw, most, many):
    """A row of so many pieces the degrees of whose bends have a product of at most this."""
    found = []
    left = most
    for _ in range(many):
        if left >= 2 and draw.random() < 0.5:
            degree = draw.randrange(2, min(left, 6) + 1)
            left = left // degree
            found.append(("bend", bend(q, draw, degree)))
        else:
            found.append(("straight", straight_of_any_sort(q, draw)))
    return tuple(found)


def step(q, draw, degrees):
    """A step with these degrees, drawn from all of them."""
    if degrees == ():
        return (-1, (), (), straight(q, draw))
    bends = tuple(bend(q, draw, degree) for degree in degrees)
    turns = tuple(draw.randrange(q) for _ in degrees[1:])
    return (draw.randrange(-1, q), bends, turns, straight_of_any_sort(q, draw))


def some_degrees(draw, many):
    return tuple(draw.randrange(2, 7) for _ in range(many))


def degrees_up_to(most):
    """All tuples of degrees whose product is at most this."""
    found = [()]
    for degrees in found:
        product = 1
        for degree in degrees:
            product *= degree
        found.extend([degrees + (degree,) for degree in range(2, 7) if product * degree <= most])
    return found


def poly(q, draw, degree, fill=0.6):
    """A polynomial of at most this degree; zero for -1."""
    found = {}
    for i in range(degree + 1):
        for j in range(degree + 1 - i):
            if draw.random() < fill:
                found[i, j] = draw.randrange(q)
    return reference.as_poly(found)


def cut_point(q, draw):
    return tuple(tuple(draw.randrange(q) for _ in range(reference.SIZE)) for _ in range(2))


# Straight maps of all sorts, short steps, places


def map_of_both(q, draw):
    return (draw.randrange(1, q), draw.randrange(q), draw.randrange(q), 0, draw.randrange(1, q), draw.randrange(q))


def core(q, draw, degrees):
    """A short step that grows, with these degrees, one or more."""
    _, bends, turns, last = step(q, draw, degrees)
    while last[3] == 0:
        last = straight(q, draw)
    return (-1, bends, turns, last)


def bent_step(q, draw, degree=None):
    """A short step with one bend that rests."""
    return (-1, (bend(q, draw, degree),), (), map_of_both(q, draw))


def straight_step(q, draw):
    return (-1, (), (), straight_of_any_sort(q, draw))


def place(q, draw, sort, many):
    """A place of a sort with so many bends."""
    if sort == "straight" and many == 0:
        return ("straight", -1, (), ())
    bends = tuple(bend(q, draw) for _ in range(many))
    turns = tuple(draw.randrange(q) for _ in range(many if sort == "bent" else many - 1))
    return (sort, draw.randrange(-1, q), bends, turns)


def places(q, draw, counts):
    return [place(q, draw, sort, many) for many in counts for sort in ("straight", "bent")]


# Families


def steps_of_sort(q, draw, sort, many):
    """So many straight maps, or bent maps, as steps."""
    if sort == "straight":
        return tuple(straight_step(q, draw) for _ in range(many))
    found = []
    for _ in range(many):
        way = draw.randrange(4)
        last = (1, 0, 0, 0, 1, 0) if way == 1 else map_of_both(q, draw)
        found.append((-1, () if way == 0 else (bend(q, draw),), (), last))
    return tuple(found)


def finite_family(q, draw, many, depth):
    """(family, sort, change): so many steps that are maps of one sort behind a change with so many bends."""
    sort = draw.choice(("straight", "bent"))
    change = step(q, draw, some_degrees(draw, depth))
    return (tuple(plain.seen_back(q, one, change) for one in steps_of_sort(q, draw, sort, many)), sort, change)


def resting_step(q, draw, depth):
    """A step that rests, behind a change with so many bends."""
    return finite_family(q, draw, 1, depth)[0][0]


def word(draw, letters, many):
    """A word of so many letters without letters beside their undoings."""
    found = []
    while len(found) < many:
        letter = draw.choice((-1, 1)) * draw.randrange(1, letters + 1)
        if not found or found[-1] != -letter:
            found.append(letter)
    return tuple(found)
