"""Maps of one sort, straight ones or bent ones, as tuples of numbers that are put together quickly."""

from bentplane.fields import inverse, opposite, plus, times
from bentplane.leastrows import NO_TURN, straight_step
from bentplane.oneletter import one_scaled, trimmed
from bentplane.places import STRAIGHT
from bentplane.straight import SAME, straight_then, straight_undone
from bentplane.tables import PRODUCTS, SUMS

# One-letter polynomials of bent maps are told here by so many numbers, of which the last ones may be 0.
MOST_NUMBERS = 7


class StraightMaps:
    """The straight maps (a, b, c, d, e, f) of a field."""

    def __init__(self, q):
        self.q = q
        self.same = SAME

    def map_of_step(self, step):
        """The straight map that a step is; None if it is none."""
        return step[3] if len(step[1]) == 0 else None

    def step_of_map(self, one):
        """A straight map as a step."""
        return straight_step(one)

    def then(self, one, other):
        """The map that does one map and then the other one."""
        return straight_then(self.q, one, other)

    def undone(self, one):
        """The map that undoes a map."""
        return straight_undone(self.q, one)

    def key(self, one, depth):
        """Where a map moves (0, 0); and if it keeps that, how it moves (1, 0); and then how it moves (0, 1)."""
        a, b, c, d, e, f = one
        return ((c, f), (a, d), (b, e))[depth]

    def rest(self, one):
        """What the keys leave open of a map: no numbers."""
        return ()


class BentMaps:
    """The bent maps (a x + h(y), e y + f) of a field, as tuples (a, e, f, h)."""

    def __init__(self, q):
        self.q = q
        self.same = (1, 1, 0, (0,) * MOST_NUMBERS)

    def map_of_step(self, step):
        """The bent map that a step is; None if it is none."""
        if not is_bent_step(step):
            return None
        a, b, c, _, e, f = step[3]
        numbers = [c, b] + [0] * (MOST_NUMBERS - 2)
        for bend in step[1]:
            for at in range(2, len(bend)):
                numbers[at] = times(self.q, a, bend[at])
        return (a, e, f, tuple(numbers))

    def step_of_map(self, one):
        """A bent map as a step."""
        a, e, f, numbers = one
        last = (a, numbers[1], numbers[0], 0, e, f)
        bend = one_scaled(self.q, trimmed((0, 0) + numbers[2:]), inverse(self.q, a))
        return (NO_TURN, (bend,), (), last) if bend != () else straight_step(last)

    def then(self, one, other):
        """The map that does one map and then the other one."""
        a, e, f, numbers = one
        other_a, other_e, other_f, other_numbers = other
        sums = SUMS[self.q]
        scale = PRODUCTS[self.q][other_a]
        moved = numbers_moved(self.q, other_numbers, e, f)
        both = tuple([sums[scale[n]][k] for n, k in zip(numbers, moved)])
        return (scale[a], times(self.q, other_e, e), plus(self.q, times(self.q, other_e, f), other_f), both)

    def undone(self, one):
        """The map that undoes a map."""
        a, e, f, numbers = one
        share = inverse(self.q, a)
        back = inverse(self.q, e)
        ahead = opposite(self.q, times(self.q, f, back))
        scale = PRODUCTS[self.q][opposite(self.q, share)]
        return (share, back, ahead, tuple([scale[n] for n in numbers_moved(self.q, numbers, back, ahead)]))

    def key(self, one, depth):
        """Where a map moves y = 0; and if it keeps that, how it moves y = 1; and then a."""
        a, e, f, _ = one
        return (f, e, a)[depth]

    def rest(self, one):
        """What the keys leave open of a map: the numbers of h, which are added up if maps have the keys of nothing."""
        return one[3]


def is_bent_step(step):
    """Whether a step is a bent map."""
    start, bends, _, last = step
    return start == NO_TURN and len(bends) <= 1 and last[3] == 0


def numbers_moved(q, numbers, e, f):
    """The numbers of h(e y + f), those of h being told: as many as before."""
    sums = SUMS[q]
    by_e = PRODUCTS[q][e]
    by_f = PRODUCTS[q][f]
    found = []
    for number in reversed(numbers):
        raised = [number] + [by_e[n] for n in found]
        found = [sums[n][by_f[k]] for n, k in zip(raised, found + [0])]
    return found


def maps_of_sort(q, sort):
    """The maps that keep the first place of a sort: all straight maps, or all bent maps."""
    return StraightMaps(q) if sort == STRAIGHT else BentMaps(q)
