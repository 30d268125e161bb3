"""What parts 5 to 8 of the document say, worked out from its words with products and undoings of steps alone.

Of the package only bentplane.steps is used here, which has its own tests.
"""

from bentplane import steps
from tests import reference

SAME = (1, 0, 0, 0, 1, 0)
SWAP = (0, 1, 0, 1, 0, 0)
NOTHING = (-1, (), (), SAME)
ROOT = ("straight", -1, (), ())
BENT_ROOT = ("bent", -1, (), ())


def seen(q, step, change):
    return steps.product(q, steps.product(q, steps.undoing(q, change), step), change)


def seen_back(q, step, change):
    return steps.product(q, steps.product(q, change, step), steps.undoing(q, change))


def sort_of_short(step):
    """The sort of a short step, from 1 to 3; 0 for a step that is not short [6.2]."""
    start, bends, turns, last = step
    if start != -1:
        return 0
    if len(bends) == 0:
        return 1
    if len(bends) == 1 and last[3] == 0:
        return 2
    return 3 if last[3] != 0 else 0


def walk(q, step):
    """The walk, from how far the step and its second repeat move the root [7.4]."""
    # If k is the walk and m the distance from the root to the places moved least, the root is moved
    # by k + 2 m, and by the second repeat by 2 k + 2 m if k is not 0, by at most 2 m otherwise.
    twice = steps.product(q, step, step)
    return max(0, 2 * len(twice[1]) - 2 * len(step[1]))


def order(q, step):
    """The order of a step that rests."""
    found, n = step, 1
    while found != NOTHING:
        found, n = steps.product(q, found, step), n + 1
        assert n < 3000
    return n


def straight_order(q, m):
    """The order of a straight map, from the rounds of the points: the map is told by where it moves them."""
    found = 1
    for x in range(q):
        for y in range(q):
            point, n = moved_point(q, m, (x, y)), 1
            while point != (x, y):
                point, n = moved_point(q, m, point), n + 1
            found = least_multiple(found, n)
    return found


def moved_point(q, m, point):
    found = []
    for a, b, c in (m[:3], m[3:]):
        part = reference.plus(q, reference.times(q, a, point[0]), reference.times(q, b, point[1]))
        found.append(reference.plus(q, part, c))
    return tuple(found)


def least_multiple(a, b):
    return next(n for n in range(a, a * b + 1, a) if n % b == 0)


def exponents(degrees):
    """The exponents of 2, 3 and 5 in the product of some degrees."""
    left = 1
    for degree in degrees:
        left *= degree
    found = []
    for prime in (2, 3, 5):
        many = 0
        while left % prime == 0:
            left, many = left // prime, many + 1
        found.append(many)
    assert left == 1
    return tuple(found)


def maps_of_both(q):
    return [
        (a, b, c, 0, e, f) for a in range(1, q) for b in range(q) for c in range(q) for e in range(1, q)
        for f in range(q)
    ]


def next_round(q, step):
    """The next round of a short step, by the words of [8.2]."""
    _, bends, turns, _ = step
    if len(bends) == 1:
        return step
    return seen(q, step, steps.step_of_row(q, (("bend", bends[0]), ("straight", (0, 1, 0, 1, turns[0], 0)))))


def rounds(q, step):
    found = [step]
    for _ in step[1][1:]:
        found.append(next_round(q, found[-1]))
    return tuple(found)


def kin_of_short(q, step):
    """All short steps that are kin to a short one that grows [8.3]."""
    maps = [(-1, (), (), m) for m in maps_of_both(q)]
    return {seen(q, turned, change) for turned in rounds(q, step) for change in maps}


# Places [7.1], [7.2]


def is_place(q, thing):
    if type(thing) is not tuple or len(thing) != 4:
        return False
    sort, start, bends, turns = thing
    if type(sort) is not str or sort not in ("straight", "bent"):
        return False
    if not reference.is_int(start) or start not in range(-1, q):
        return False
    if type(bends) is not tuple or type(turns) is not tuple:
        return False
    if not all(reference.is_bend(q, bend) for bend in bends) or not all(reference.is_number(q, t) for t in turns):
        return False
    if sort == "straight":
        return thing == ROOT if bends == () else len(turns) + 1 == len(bends)
    return len(turns) == len(bends)


def place_row(place):
    """The row of a place."""
    sort, start, bends, turns = place
    found = [] if start == -1 else [turn(start)]
    for at, bend in enumerate(bends):
        found.append(("bend", bend))
        if at < len(turns):
            found.append(turn(turns[at]))
    return tuple(found)


def turn(number):
    return ("straight", (0, 1, 0, 1, number, 0))


def is_bent_map(step):
    start, bends, _, last = step
    return start == -1 and len(bends) <= 1 and last[3] == 0


def lies_in(q, step, place):
    """Whether a step is the step of a place and then a map of the place's sort."""
    rest = steps.product(q, steps.undoing(q, steps.step_of_row(q, place_row(place))), step)
    return rest[1] == () if place[0] == "straight" else is_bent_map(rest)


def ahead(place):
    sort, start, bends, turns = place
    if place == ROOT:
        return None
    if sort == "straight":
        return ("bent", start, bends[:-1], turns)
    return ROOT if bends == () else ("straight", start, bends, turns[:-1])


def path_to_root(place):
    found = [place]
    while found[-1] != ROOT:
        found.append(ahead(found[-1]))
    return found


def way(one, other):
    """The way between two places, by way of the first place that stands ahead of both."""
    near, far = path_to_root(one), path_to_root(other)
    meeting = next(place for place in near if place in far)
    return tuple(near[:near.index(meeting)] + far[:far.index(meeting) + 1][::-1])
