"""Maps of both sorts, that is straight maps with d = 0, and what they do to short steps that grow [8.2]."""

from bentplane.fields import minus, times
from bentplane.leastrows import NO_TURN, NOTHING, bend_ahead, step_then, straight_step, turn_and_map
from bentplane.straight import turn_by


def first_bend(core):
    """The first bend of a short step that grows."""
    return core[1][0]


def all_turns(q, core):
    """The turns of a short step that grows, and behind them the one that its last map begins with."""
    _, _, turns, last = core
    return (*turns, turn_and_map(q, last)[0])


def beginning(q, core, many):
    """The step that the first bends of a short step make, so many, each with the turn behind it."""
    if many == 0:
        return NOTHING
    turns = all_turns(q, core)
    return (NO_TURN, core[1][:many], turns[:many - 1], turn_by(turns[many - 1]))


def all_shares(q):
    """The triples (a, e, f) of all maps of both sorts."""
    return [(a, e, f) for a in range(1, q) for e in range(1, q) for f in range(q)]


def bend_behind(q, shares, bend):
    """(bend, linear): the bend that comes out ahead of a map with these shares, and what the map gains in b."""
    a, e, f = shares
    moved_bend, bent_map = bend_ahead(q, (a, 0, 0, 0, e, f), bend)
    return (moved_bend, bent_map[1])


def maps_to_turn(q, shares, core, turn):
    """The maps with these shares that, put ahead of a short step, give its first bend a told turn behind it."""
    a, e, f = shares
    # Behind the first bend the map has b and the linear gain together in the place of b; the
    # turn by t behind that then becomes the one by the (b + gain + e t) / a.
    gain = bend_behind(q, shares, first_bend(core))[1]
    both = minus(q, times(q, a, turn), times(q, e, all_turns(q, core)[0]))
    b = minus(q, both, gain)
    return [(a, b, c, 0, e, f) for c in range(q)]


def is_seen_as(q, one, other, straight):
    """Whether a step, seen by a straight map, is another one."""
    change = straight_step(straight)
    return step_then(q, one, change) == step_then(q, change, other)


def maps_between(q, one, other):
    """The ascending list of the maps of both sorts by which one short step is seen as another one."""
    # Such a map, put ahead of the other step, gives the first bend and the first turn of the one.
    fitting = [
        shares for shares in all_shares(q) if bend_behind(q, shares, first_bend(other))[0] == first_bend(one)
    ]
    turn = all_turns(q, one)[0]
    maps = [straight for shares in fitting for straight in maps_to_turn(q, shares, other, turn)]
    return sorted([straight for straight in maps if is_seen_as(q, one, other, straight)])
