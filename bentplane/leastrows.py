"""Least rows: how pieces, put one behind the other, come to the only step that they make [4.4]."""

from bentplane.fields import inverse, minus, opposite, plus, times
from bentplane.oneletter import one_plus, one_put, one_scaled
from bentplane.straight import straight_then, straight_undone, turn_by

NO_TURN = -1
NOTHING = (-1, (), (), (1, 0, 0, 0, 1, 0))


class LeastRow:
    """A step to which pieces are put; it is a least row at all times."""

    def __init__(self, q, step):
        start, bends, turns, last = step
        self.q = q
        # One turn ahead of each bend: the first one is the start, perhaps NO_TURN.
        self.turns = [start, *turns] if len(bends) > 0 else []
        self.bends = list(bends)
        self.last = last

    def as_step(self):
        """The step that has come to be."""
        if len(self.bends) == 0:
            return (NO_TURN, (), (), self.last)
        return (self.turns[0], tuple(self.bends), tuple(self.turns[1:]), self.last)

    def put_piece(self, piece):
        """Put a piece behind the step."""
        sort, map_or_bend = piece
        if sort == "straight":
            self.last = straight_then(self.q, self.last, map_or_bend)
        else:
            self.put_bend(map_or_bend)

    def put_bend(self, bend):
        """Put a bend behind the step."""
        number, bent_map = turn_and_map(self.q, self.last)
        moved_bend, self.last = bend_ahead(self.q, bent_map, bend)
        if number == NO_TURN and len(self.bends) > 0:
            self.add_to_last_bend(moved_bend)
        else:
            self.turns.append(number)
            self.bends.append(moved_bend)

    def add_to_last_bend(self, bend):
        """Put a bend behind the last one, with no turn between them."""
        added = one_plus(self.q, self.bends.pop(), bend)
        if added != ():
            self.bends.append(added)
            return
        number = self.turns.pop()
        if number != NO_TURN:
            self.last = straight_then(self.q, turn_by(number), self.last)


def turn_and_map(q, straight):
    """The number of a turn, perhaps NO_TURN, and a map with d = 0 that make a straight map together."""
    a, b, c, d, e, f = straight
    if d == 0:
        return (NO_TURN, straight)
    number = times(q, e, inverse(q, d))
    return (number, (minus(q, b, times(q, a, number)), a, c, 0, d, f))


def bend_ahead(q, bent_map, bend):
    """A bend and then a map with d = 0 that do the same as such a map and then a bend."""
    a, b, c, _, e, f = bent_map
    # Both lead x to a x + b y + c + bend(e y + f): what is constant or linear in the last
    # part goes into the map, and all the rest of it stands ahead as a bend.
    parts = one_put(q, bend, (f, e))
    moved_bend = one_scaled(q, (0, 0) + parts[2:], inverse(q, a))
    constant, linear = parts[:2]
    return (moved_bend, (a, plus(q, b, linear), plus(q, c, constant), 0, e, f))


def step_and_row(q, step, row):
    """The step that does a step and then a row of pieces."""
    found = LeastRow(q, step)
    for piece in row:
        found.put_piece(piece)
    return found.as_step()


def step_by_row(q, row):
    """The step that a row of pieces makes."""
    return step_and_row(q, NOTHING, row)


def row_by_step(step):
    """The row of pieces of a step."""
    start, bends, turns, last = step
    row = []
    for number, bend in zip((start, *turns), bends):
        if number != NO_TURN:
            row.append(("straight", turn_by(number)))
        row.append(("bend", bend))
    row.append(("straight", last))
    return tuple(row)


def piece_undone(q, piece):
    """The piece that undoes a piece."""
    sort, map_or_bend = piece
    if sort == "straight":
        return ("straight", straight_undone(q, map_or_bend))
    return ("bend", one_scaled(q, map_or_bend, opposite(q, 1)))


def row_undone(q, row):
    """The row of pieces that undoes a row of pieces."""
    return tuple([piece_undone(q, piece) for piece in reversed(row)])


def step_then(q, one, other):
    """The step that does the first step and then the second one."""
    return step_and_row(q, one, row_by_step(other))


def step_undone(q, step):
    """The step that undoes a step."""
    return step_by_row(q, row_undone(q, row_by_step(step)))


def step_repeated(q, step, n):
    """The product of a step with itself, n times, n being from 0 on."""
    row = row_by_step(step)
    found = NOTHING
    for _ in range(n):
        found = step_and_row(q, found, row)
    return found


def straight_step(straight):
    """A straight map as a step."""
    return (NO_TURN, (), (), straight)
