"""The tree of places: places, their steps, and the ways between them ([7.1], [7.2])."""

from bentplane.errors import BadPlace
from bentplane.fields import is_integer
from bentplane.leastrows import NO_TURN, straight_step, turn_and_map
from bentplane.oneletter import are_numbers
from bentplane.pairs import is_bend
from bentplane.steps import look_at_steps
from bentplane.straight import SAME, turn_by

STRAIGHT = "straight"
BENT = "bent"
ROOT = ("straight", -1, (), ())


def is_place(q, thing):
    """Whether any value is a place over the field."""
    if not isinstance(thing, tuple) or len(thing) != 4:
        return False
    sort, start, bends, turns = thing
    if not is_integer(start) or not NO_TURN <= start < q or not are_numbers(q, turns):
        return False
    if not isinstance(bends, tuple) or not all([is_bend(q, bend) for bend in bends]):
        return False
    if sort == STRAIGHT and len(bends) == 0:
        return start == NO_TURN and len(turns) == 0
    return (sort == STRAIGHT and len(turns) == len(bends) - 1) or (sort == BENT and len(turns) == len(bends))


def look_at_places(q, things):
    """Raise BadPlace with the first of some values that is no place."""
    for thing in things:
        if not is_place(q, thing):
            raise BadPlace(thing)


def place_step(place):
    """The step that the row of a place makes."""
    sort, start, bends, turns = place
    if sort == STRAIGHT:
        return (start, bends, turns, SAME)
    if len(bends) > 0:
        return (start, bends, turns[:-1], turn_by(turns[-1]))
    return straight_step(SAME if start == NO_TURN else turn_by(start))


def step_of_place(q, place):
    """The step of a place."""
    look_at_places(q, [place])
    return place_step(place)


def place_by_step(q, step, sort):
    """The place of a sort in which a step lies."""
    start, bends, turns, last = step
    if sort == STRAIGHT:
        return (STRAIGHT, start, bends, turns)
    number, _ = turn_and_map(q, last)
    if number == NO_TURN:
        # The last map is a bent map, and so is the last bend with it behind.
        return (BENT, start, bends[:-1], turns)
    if len(bends) == 0:
        return (BENT, number, (), ())
    return (BENT, start, bends, (*turns, number))


def place_of(q, step, sort):
    """The place of the sort "straight" or "bent" in which a step lies."""
    look_at_steps(q, [step])
    if sort != STRAIGHT and sort != BENT:
        raise BadPlace(sort)
    return place_by_step(q, step, sort)


def place_ahead(place):
    """The place ahead of a place; None for the root."""
    sort, start, bends, turns = place
    if place == ROOT:
        return None
    if sort == STRAIGHT:
        return (BENT, start, bends[:-1], turns)
    if len(bends) == 0:
        return ROOT
    return (STRAIGHT, start, bends, turns[:-1])


def ahead(q, place):
    """The place ahead of a place; None for the root."""
    look_at_places(q, [place])
    return place_ahead(place)


def place_depth(place):
    """The distance of a place from the root."""
    sort, _, bends, _ = place
    return 2 * len(bends) + (1 if sort == BENT else 0)


def depth(q, place):
    """The distance of a place from the root."""
    look_at_places(q, [place])
    return place_depth(place)


def are_beside(q, one, other):
    """Whether one of two places is ahead of the other one."""
    look_at_places(q, [one, other])
    return place_ahead(one) == other or place_ahead(other) == one


def places_between(one, other):
    """The list of the places of the way from one place to another one."""
    near = [one]
    far = [other]
    # The deeper one of the two ends goes on to the place ahead of it, until they meet.
    while near[-1] != far[-1]:
        way = near if place_depth(near[-1]) >= place_depth(far[-1]) else far
        way.append(place_ahead(way[-1]))
    return near[:-1] + far[::-1]


def distance(q, one, other):
    """The number of places of the way from one place to another one, minus 1."""
    look_at_places(q, [one, other])
    return len(places_between(one, other)) - 1


def way_between(q, one, other):
    """The places of the way from one place to another one."""
    look_at_places(q, [one, other])
    return tuple(places_between(one, other))


def many_behind(q, place, degree):
    """How many places a place is ahead of, with last bends of at most a degree below a bent place."""
    look_at_places(q, [place])
    if place == ROOT:
        return q + 1
    if place[0] == STRAIGHT:
        return q
    # Bends are told by their numbers from the second power to this degree, which are not all 0.
    found = 1
    for _ in range(degree - 1):
        found *= q
    return found - 1


def behind(q, place, degree):
    """All places that a place is ahead of, with last bends of at most a degree below a bent place."""
    look_at_places(q, [place])
    sort, start, bends, turns = place
    if place == ROOT:
        return tuple([(BENT, number, (), ()) for number in range(NO_TURN, q)])
    if sort == STRAIGHT:
        return tuple([(BENT, start, bends, (*turns, number)) for number in range(q)])
    return tuple([(STRAIGHT, start, (*bends, bend), turns) for bend in bends_up_to(q, degree)])


def bends_up_to(q, degree):
    """The ascending list of all bends of at most a degree."""
    heads = [(0, 0)]
    found = []
    for _ in range(degree - 1):
        heads = [(*head, number) for head in heads for number in range(q)]
        found.extend([head for head in heads if head[-1] != 0])
    return sorted(found)
