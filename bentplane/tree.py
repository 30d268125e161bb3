"""What steps do to the tree of places: moves, and the places that are moved least ([7.3], [7.4])."""

from bentplane.errors import NotGrowing
from bentplane.kinds import step_walk
from bentplane.leastrows import step_then
from bentplane.places import ROOT, look_at_places, place_by_step, place_step, places_between
from bentplane.steps import look_at_steps


def look_at_both(q, step, place):
    """Raise BadStep for what is no step, then BadPlace for what is no place."""
    look_at_steps(q, [step])
    look_at_places(q, [place])


def place_moved(q, step, place):
    """The place to which a step moves a place."""
    return place_by_step(q, step_then(q, step, place_step(place)), place[0])


def moved(q, step, place):
    """The place to which a step moves a place."""
    look_at_both(q, step, place)
    return place_moved(q, step, place)


def is_kept(q, step, place):
    """Whether a step moves a place to itself."""
    look_at_both(q, step, place)
    return place_moved(q, step, place) == place


def nearest_place(q, step, place):
    """The place nearest to a place of those that a step moves least."""
    way = places_between(place, place_moved(q, step, place))
    return way[(len(way) - 1 - step_walk(q, step)) // 2]


def is_on_line(q, step, place):
    """Whether a step moves a place by no more than its walk."""
    look_at_both(q, step, place)
    return nearest_place(q, step, place) == place


def nearest(q, step, place):
    """The place nearest to a place of those that a step moves least."""
    look_at_both(q, step, place)
    return nearest_place(q, step, place)


def line_stretch(q, step):
    """The way from the place of the line of a growing step nearest to the root to where it is moved."""
    look_at_steps(q, [step])
    if step_walk(q, step) == 0:
        raise NotGrowing(step)
    first = nearest_place(q, step, ROOT)
    return tuple(places_between(first, place_moved(q, step, first)))
