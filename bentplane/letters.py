"""Steps that are turned into one another by changes of letters: rounds, least forms, kin steps ([8.2], [8.3])."""

from bentplane.bothsorts import all_shares, beginning, bend_behind, first_bend, maps_between, maps_to_turn
from bentplane.errors import BadStep, NotGrowing
from bentplane.kinds import is_growing_core, seen_by, shortened
from bentplane.leastrows import step_then, step_undone, straight_step
from bentplane.steps import is_step, look_at_steps


def look_at_core(q, step):
    """Raise BadStep for any value that is not a short step that grows."""
    if not is_step(q, step) or not is_growing_core(step):
        raise BadStep(step)


def growing_cores(q, things):
    """A pair (core, change) for each of some values; raises BadStep, then NotGrowing, with the first such one."""
    look_at_steps(q, things)
    found = [shortened(q, thing) for thing in things]
    for thing, (core, _) in zip(things, found):
        if not is_growing_core(core):
            raise NotGrowing(thing)
    return found


def round_at(q, core, many):
    """The round of a short step that begins behind so many of its bends."""
    return seen_by(q, core, beginning(q, core, many))


def next_round(q, step):
    """A short step seen by its first bend with its first turn; a step with one bend stays as it is."""
    look_at_core(q, step)
    return round_at(q, step, 1) if len(step[1]) > 1 else step


def rounds(q, step):
    """A short step, its next round, the next round of that, and so on: as many as it has bends."""
    look_at_core(q, step)
    return tuple([round_at(q, step, many) for many in range(len(step[1]))])


def maps_of_both(q):
    """The ascending tuple of all maps of both sorts."""
    return tuple([
        (a, b, c, 0, e, f)
        for a in range(1, q) for b in range(q) for c in range(q) for e in range(1, q) for f in range(q)
    ])


def keeping_maps(q, step):
    """The ascending tuple of the maps of both sorts by which a short step is seen as itself."""
    look_at_core(q, step)
    return tuple(maps_between(q, step, step))


def least_beginnings(q, core):
    """(round, many, shares) for each round and shares of a map behind which the first bend is least."""
    found = []
    for many in range(len(core[1])):
        turned = round_at(q, core, many)
        for shares in all_shares(q):
            bend = bend_behind(q, shares, first_bend(turned))[0]
            found.append((bend, turned, many, shares))
    least = min([bend for bend, _, _, _ in found])
    return [(turned, many, shares) for bend, turned, many, shares in found if bend == least]


def least_of_core(q, core):
    """(form, change): the least of all short steps that are kin to a short one, and a change that shows it."""
    # The first bend is compared first. Between two bends the first turn can be brought to 0 and no
    # bend becomes another one by this, so it is 0 in the least form; behind one bend all are tried.
    numbers = [0] if len(core[1]) > 1 else list(range(q))
    found = []
    for turned, many, shares in least_beginnings(q, core):
        for number in numbers:
            for straight in maps_to_turn(q, shares, turned, number):
                back = step_undone(q, straight_step(straight))
                found.append((seen_by(q, turned, back), many, back))
    form, many, back = min(found)
    return (form, step_then(q, beginning(q, core, many), back))


def least_form_of(q, core, change):
    """(form, change): the least form of a step, of which a short step and a change by which it is seen so are told."""
    form, more = least_of_core(q, core)
    return (form, step_then(q, change, more))


def least_form(q, step):
    """(form, change): the least of all short steps that are kin to a growing step, and a change that shows it."""
    core, change = growing_cores(q, [step])[0]
    return least_form_of(q, core, change)


def judge_kin(q, one, other):
    """A certificate that two growing steps are kin, or that they are not."""
    cores = growing_cores(q, [one, other])
    (form, change), (other_form, other_change) = [least_form_of(q, core, begun) for core, begun in cores]
    if form == other_form:
        return ("kin", step_then(q, change, step_undone(q, other_change)))
    return ("unlike", change, other_change)


def kin_holds(q, one, other, thing):
    """Whether any value is a right certificate for two growing steps."""
    cores = growing_cores(q, [one, other])
    if not isinstance(thing, tuple) or len(thing) < 2 or not all([is_step(q, change) for change in thing[1:]]):
        return False
    if thing[0] == "kin" and len(thing) == 2:
        return seen_by(q, one, thing[1]) == other
    if thing[0] != "unlike" or len(thing) != 3:
        return False
    forms = [least_form_of(q, core, begun)[0] for core, begun in cores]
    return forms[0] != forms[1] and [seen_by(q, one, thing[1]), seen_by(q, other, thing[2])] == forms


def are_kin(q, one, other):
    """Whether one of two growing steps, seen by some step, is the other one."""
    return judge_kin(q, one, other)[0] == "kin"
