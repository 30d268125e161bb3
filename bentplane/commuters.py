"""Steps that commute with a growing step, and its roots ([8.4], [8.5])."""

from bentplane.bothsorts import beginning, maps_between
from bentplane.kinds import seen_by
from bentplane.leastrows import step_repeated, step_then, step_undone, straight_step
from bentplane.letters import growing_cores, round_at


def commuters_along(q, core, many):
    """The steps that commute with a short step and shift its line by so many bends, from 0 to all of them."""
    # Such a step begins as the short step does, and then has a map of both sorts behind it that
    # brings the round from there on back to the short step.
    begun = beginning(q, core, many)
    maps = maps_between(q, round_at(q, core, many), core)
    return [step_then(q, begun, straight_step(straight)) for straight in maps]


def seen_back(q, steps, change):
    """The ascending tuple of the steps that, seen by a change, are told steps."""
    back = step_undone(q, change)
    return tuple(sorted([seen_by(q, step, back) for step in steps]))


def resting_commuters(q, step):
    """The ascending tuple of the steps that rest and commute with a growing step."""
    core, change = growing_cores(q, [step])[0]
    return seen_back(q, commuters_along(q, core, 0), change)


def least_commuter(q, step):
    """A step of the least walk among those that commute with a growing step and grow."""
    core, change = growing_cores(q, [step])[0]
    many = 1
    found = commuters_along(q, core, many)
    # The short step itself commutes with itself, and shifts its line by all its bends.
    while len(found) == 0:
        many += 1
        found = commuters_along(q, core, many)
    return seen_back(q, found[:1], change)[0]


def roots_of(q, step, n):
    """The ascending tuple of all steps whose n-th repeat is a growing step."""
    core, change = growing_cores(q, [step])[0]
    many = len(core[1])
    if many % n != 0:
        return ()
    found = [root for root in commuters_along(q, core, many // n) if step_repeated(q, root, n) == core]
    return seen_back(q, found, change)
