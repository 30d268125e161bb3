"""Groups of maps of one sort: how many maps some of them make, and whether a map is among those.

A group is told by a chain (C. Sims): the maps of each group in the chain that have the key of nothing
make the next group. Only one map for each key is kept, so that very great groups are told as well.
"""

from bentplane.fields import characteristic, inverse
from bentplane.tables import PRODUCTS, SUMS

# The maps that have all keys of nothing are added up like rows of numbers.
DEPTHS = 3


class Span:
    """The last group of a chain: rows of numbers, closed under sums."""

    def __init__(self, maps):
        self.maps = maps
        self.p = characteristic(maps.q)
        # Triples (position, weight, row): the row has the digit 1 with this weight at this position,
        # and all later rows have the digit 0 there.
        self.base = []

    def lessened(self, row):
        """A row less what the base makes of it; zeros alone if it is in the span."""
        sums = SUMS[self.maps.q]
        found = row
        for at, weight, other in self.base:
            digit = found[at] // weight % self.p
            if digit != 0:
                scale = PRODUCTS[self.maps.q][self.p - digit]
                found = tuple([sums[n][scale[k]] for n, k in zip(found, other)])
        return found

    def contains(self, one):
        """Whether a map is in the group."""
        return max(self.lessened(self.maps.rest(one)), default=0) == 0

    def take_in(self, one):
        """Make the group greater by a map that is not in it."""
        row = self.lessened(self.maps.rest(one))
        at = 0
        while row[at] == 0:
            at += 1
        weight = 1
        while row[at] // weight % self.p == 0:
            weight = weight * self.p
        scale = PRODUCTS[self.maps.q][inverse(self.maps.q, row[at] // weight % self.p)]
        self.base.append((at, weight, tuple([scale[n] for n in row])))

    def many(self):
        """How many maps the group has."""
        found = 1
        for _ in self.base:
            found = found * self.p
        return found


class Level:
    """One group of a chain, made by a few maps, and the groups below it."""

    def __init__(self, maps, depth):
        self.maps = maps
        self.depth = depth
        self.makers = []
        # For each key that comes up a map that has it, and the undoing of that map.
        self.there = {maps.key(maps.same, depth): maps.same}
        self.back = {maps.key(maps.same, depth): maps.same}
        self.below = Level(maps, depth + 1) if depth + 1 < DEPTHS else Span(maps)

    def contains(self, one):
        """Whether a map is in the group."""
        key = self.maps.key(one, self.depth)
        return key in self.back and self.below.contains(self.maps.then(one, self.back[key]))

    def take_in(self, one):
        """Make the group greater by a map that is not in it."""
        self.makers.append(one)
        # The maps kept for the keys, each with a maker behind it and then brought back to the key of
        # nothing, make the group below (O. Schreier).
        open_pairs = [(known, one) for known in list(self.there.values())]
        while len(open_pairs) > 0:
            known, maker = open_pairs.pop()
            moved = self.maps.then(known, maker)
            key = self.maps.key(moved, self.depth)
            if key in self.back:
                self.below_takes(self.maps.then(moved, self.back[key]))
            else:
                self.there[key] = moved
                self.back[key] = self.maps.undone(moved)
                open_pairs.extend([(moved, other) for other in self.makers])

    def below_takes(self, one):
        """Make the group below greater, if a map is not in it."""
        if not self.below.contains(one):
            self.below.take_in(one)

    def many(self):
        """How many maps the group has."""
        return len(self.there) * self.below.many()


def chain_of(maps, makers):
    """The group that some maps make."""
    found = Level(maps, 0)
    for one in makers:
        if not found.contains(one):
            found.take_in(one)
    return found
