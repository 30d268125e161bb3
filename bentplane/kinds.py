"""Steps that rest and steps that grow: changes of letters, short steps, walks, orders ([6.1] to [6.3])."""

from bentplane.errors import NotResting
from bentplane.fields import is_integer
from bentplane.leastrows import NO_TURN, NOTHING, row_by_step, row_undone, step_and_row, step_by_row, step_then
from bentplane.steps import is_step, look_at_steps
from bentplane.straight import turn_by


def seen_by(q, step, change):
    """The step seen by a change of letters."""
    row = row_by_step(change)
    return step_by_row(q, row_undone(q, row) + row_by_step(step) + row)


def seen(q, step, change):
    """The step seen by a change of letters: the change undone, the step, and the change."""
    look_at_steps(q, [step, change])
    return seen_by(q, step, change)


def is_resting_core(step):
    """Whether a step is short and of one of the two sorts that rest."""
    start, bends, _, last = step
    return start == NO_TURN and (len(bends) == 0 or (len(bends) == 1 and last[3] == 0))


def is_growing_core(step):
    """Whether a step is short and of the third sort, which grows."""
    start, bends, _, last = step
    return start == NO_TURN and len(bends) > 0 and last[3] != 0


def is_short_core(step):
    """Whether a step is short."""
    return is_resting_core(step) or is_growing_core(step)


def is_short(q, step):
    """Whether a step is short."""
    look_at_steps(q, [step])
    return is_short_core(step)


def first_and_rest(step):
    """The first piece of the row of a step that is not short, and the step that the other pieces make."""
    start, bends, turns, last = step
    if start != NO_TURN:
        return (("straight", turn_by(start)), (NO_TURN, bends, turns, last))
    return (("bend", bends[0]), (turns[0], bends[1:], turns[1:], last))


def shortened(q, step):
    """(core, change): a short step, and a change of letters by which a step is seen as it."""
    core = step
    change = NOTHING
    # Seen by its first piece, a step has this piece at its end and not at its front. So a turn
    # ahead of the bends goes into the last map; and a bend goes into the last bend where the last
    # map is bent, as it is here if no turn stands ahead. The bends become fewer, and this ends.
    while not is_short_core(core):
        piece, rest = first_and_rest(core)
        core = step_and_row(q, rest, [piece])
        change = step_and_row(q, change, [piece])
    return (core, change)


def short_form(q, step):
    """(core, T): a short step, and a step T by which the step is seen as it."""
    look_at_steps(q, [step])
    return shortened(q, step)


def step_walk(q, step):
    """The walk of a step: 0 if it rests, twice the number of bends of its short forms if it grows."""
    core = shortened(q, step)[0]
    return 2 * len(core[1]) if is_growing_core(core) else 0


def walk(q, step):
    """The walk of a step, the least distance by which it moves a place of the tree."""
    look_at_steps(q, [step])
    return step_walk(q, step)


def is_resting(q, step):
    """Whether a step rests."""
    look_at_steps(q, [step])
    return is_resting_core(shortened(q, step)[0])


def core_order(q, core):
    """The order of a short step that rests."""
    # Straight maps and bent maps over so small fields come back to nothing after few repeats.
    found = core
    many = 1
    while found != NOTHING:
        found = step_then(q, found, core)
        many += 1
    return many


def judge_kind(q, step):
    """A certificate that a step rests, or that it grows."""
    look_at_steps(q, [step])
    core, change = shortened(q, step)
    if is_resting_core(core):
        return ("rests", core_order(q, core))
    return ("grows", change)


def rests_after(q, step, n):
    """Whether the n-th repeat of a step is nothing, n being from 1 on."""
    core = shortened(q, step)[0]
    return is_resting_core(core) and n % core_order(q, core) == 0


def kind_holds(q, step, thing):
    """Whether any value is a right certificate for the kind of a step."""
    look_at_steps(q, [step])
    if not isinstance(thing, tuple) or len(thing) != 2:
        return False
    word, told = thing
    if word == "rests":
        return is_integer(told) and told >= 1 and rests_after(q, step, told)
    return word == "grows" and is_step(q, told) and is_growing_core(seen_by(q, step, told))


def order(q, step):
    """The least n from 1 on whose repeat of a step that rests is nothing."""
    look_at_steps(q, [step])
    core = shortened(q, step)[0]
    if is_growing_core(core):
        raise NotResting(step)
    return core_order(q, core)
