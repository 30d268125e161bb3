"""Promises about named steps, and certificates against them ([14.2], [14.3])."""

from bentplane.families import ENDLESS, can_be_family, judge_family
from bentplane.free import TIED, judge_two
from bentplane.kinds import judge_kind

RESTS = "rests"
SAME = "same"
LETTERS = "abcdefghijklmnopqrstuvwxyz"
MOST_LETTERS = 8


def is_name(thing):
    """Whether any value can be a name."""
    if not isinstance(thing, str) or not 1 <= len(thing) <= MOST_LETTERS:
        return False
    return all([letter in LETTERS for letter in thing])


def are_ascending_names(steps, things):
    """Whether any values are names of some steps in ascending order, each of them once."""
    if not all([isinstance(thing, str) and thing in steps for thing in things]):
        return False
    return all([things[k] < things[k + 1] for k in range(len(things) - 1)])


def is_promise(steps, thing):
    """Whether any value is a promise with names of some steps, which are told by a dict."""
    if not isinstance(thing, tuple) or not 2 <= len(thing) <= 3:
        return False
    sort = thing[0]
    if sort == "finite" and len(thing) == 2:
        return can_be_family(thing[1]) and are_ascending_names(steps, thing[1])
    if sort == "grows" and len(thing) == 2:
        return are_ascending_names(steps, thing[1:])
    return (sort == "free" or sort == "unlike") and len(thing) == 3 and are_ascending_names(steps, thing[1:])


def names_of_promise(promise):
    """The names in a promise."""
    return promise[1] if promise[0] == "finite" else promise[1:]


def judge_sort(q, sort, steps):
    """A certificate for or against a promise of a sort about some steps; None where none is asked for."""
    if sort == "finite":
        return judge_family(q, steps)
    if sort == "free":
        return judge_two(q, steps[0], steps[1])
    if sort == "grows":
        return judge_kind(q, steps[0])
    return (SAME, steps[0]) if steps[0] == steps[1] else None


def against(q, steps, promise):
    """A certificate against a promise about named steps; None if the promise holds."""
    certificate = judge_sort(q, promise[0], tuple([steps[name] for name in names_of_promise(promise)]))
    if certificate is not None and certificate[0] in (ENDLESS, TIED, RESTS, SAME):
        return certificate
    return None
