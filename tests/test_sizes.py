"""Part 9, [9.1] and [9.3]: how many deeds a family has, which ones, their words, lengths, orders and middle."""

import unittest

from bentplane import families, sizes, steps
from bentplane.errors import BadFamily, BadStep, NotFinite
from tests import listing, plain, reference, samples
from tests.plain import NOTHING, SAME, SWAP
from tests.reference import FIELDS

BEND = (0, 0, 1)
BENT = (-1, (BEND,), (), SAME)
TURNED = (-1, (), (), SWAP)
ASKED = (sizes.many_deeds, sizes.deeds, sizes.by_length, sizes.middle, sizes.orders_of)


def straight(*numbers):
    return (-1, (), (), numbers)


def number_order(q, a):
    n, found = 1, a
    while found != 1:
        n, found = n + 1, reference.times(q, found, a)
    return n


def maker(q):
    """A number of which all others than 0 are powers."""
    return next(a for a in range(1, q) if number_order(q, a) == q - 1)


def few_deeds(q, draw, most, many=8):
    """Triples (family, listed deeds, change) of families with at most this many deeds."""
    found = []
    for trial in range(6 * many):
        family, _, change = samples.finite_family(q, draw, draw.randrange(1, 4), trial % 3)
        if trial % 2:
            # Steps of low orders, which make few deeds over large fields, too.
            family = tuple(low_order(q, draw, change) for _ in range(draw.randrange(1, 4)))
        if families.is_finite(q, family) and sizes.many_deeds(q, family) <= most:
            listed = listing.shortest_words(q, family, most)
            if listed is not None:
                found.append((family, listed, change))
        if len(found) == many:
            break
    return found


def low_order(q, draw, change):
    sign = draw.choice((1, reference.opposite(q, 1)))
    way = draw.randrange(3)
    if way == 0:
        return plain.seen_back(q, straight(sign, 0, 0, 0, 1, 0), change)
    if way == 1:
        return plain.seen_back(q, straight(1, draw.randrange(q), draw.randrange(q), 0, 1, 0), change)
    bends = (samples.bend(q, draw),) if draw.random() < 0.5 else ()
    return plain.seen_back(q, (-1, bends, (), SAME), change)


def endless_family(q, draw):
    change = samples.step(q, draw, (2,))
    return (plain.seen_back(q, TURNED, change), NOTHING, plain.seen_back(q, BENT, change))


def other_ways(q, draw, family):
    """Families with the same deeds, or with just as many ones seen by another step."""
    same = [family[::-1], tuple(steps.undoing(q, s) for s in family), (family + family)[:4] if len(family) < 3 else family]
    same.append((NOTHING, *family)[:4] if len(family) < 4 else family)
    change = samples.step(q, draw, (2, 3))
    return same, tuple(plain.seen(q, s, change) for s in family)


class Many(unittest.TestCase):
    def test_against_listing(self):
        for q in FIELDS:
            draw = samples.drawer(q, "many")
            for family, listed, _ in few_deeds(q, draw, 300):
                found = sizes.many_deeds(q, family)
                self.assertEqual([found, type(found)], [len(listed), int])
                same, turned = other_ways(q, draw, family)
                for other in [*same, turned]:
                    self.assertEqual(sizes.many_deeds(q, other), len(listed))

    def test_drawn_families_over_small_fields(self):
        for q in (2, 3):
            draw = samples.drawer(q, "small")
            for trial in range(40):
                family = samples.finite_family(q, draw, 1 + trial % 4, trial % 2)[0]
                listed = listing.shortest_words(q, family, 450)
                if listed is None:
                    self.assertGreater(sizes.many_deeds(q, family), 450)
                else:
                    self.assertEqual(sizes.many_deeds(q, family), len(listed))

    def test_all_straight_maps(self):
        for q in FIELDS:
            draw = samples.drawer(q, "straight")
            a, less = maker(q), reference.opposite(q, 1)
            change = samples.step(q, draw, (2, 3, 2))
            all_maps = ((a, 0, 0, 0, 1, 0), (1, 1, 0, 0, 1, 0), SWAP, (1, 0, 1, 0, 1, 0))
            right = (q * q - 1) * (q * q - q)
            self.check_many(q, draw, all_maps, change, right * q * q)
            self.check_many(q, draw, all_maps[:3], change, right)
            # Of the determinant 1 alone: shears of both sorts, and a map of the order q - 1.
            one = ((1, 1, 0, 0, 1, 0), (1, 0, 0, 1, 1, 0), (a, 0, 0, 0, reference.inverse(q, a), 0))
            self.check_many(q, draw, one, change, right // (q - 1))
            self.check_many(q, draw, (*one, (1, 0, 0, 0, 1, 1)), change, right // (q - 1) * q * q)
            self.check_many(q, draw, ((less, 0, 1, 0, less, 0),), change, 2)
            self.check_many(q, draw, ((a, 0, 0, 0, 1, 0), (1, 0, 0, 0, a, 0)), change, (q - 1) ** 2)
            both = ((a, 0, 0, 0, 1, 0), (1, 0, 0, 0, a, 0), (1, 0, 0, 0, 1, 1), (1, 1, 0, 0, 1, 0))
            self.check_many(q, draw, both, change, (q - 1) ** 2 * q ** 3)

    def check_many(self, q, draw, maps, change, right):
        self.check_steps(q, draw, tuple((-1, (), (), m) for m in maps), change, right)

    def check_steps(self, q, draw, family, change, right):
        self.assertEqual(sizes.many_deeds(q, family), right)
        self.assertEqual(sizes.many_deeds(q, tuple(plain.seen_back(q, s, change) for s in family)), right)
        same, turned = other_ways(q, draw, family)
        for other in [*same, turned]:
            self.assertEqual(sizes.many_deeds(q, other), right)

    def test_bends_that_add_up(self):
        """Bends alone commute: their deeds are counted by the digits of their numbers."""
        for q in FIELDS:
            draw = samples.drawer(q, "adding")
            p = reference.characteristic(q)
            for _ in range(6):
                bends = [samples.bend(q, draw) for _ in range(4)]
                if draw.random() < 0.4:
                    bends[2] = bends[1]
                family = tuple((-1, (bend,), (), SAME) for bend in bends)
                self.check_steps(q, draw, family, samples.step(q, draw, (2,)), p ** digit_rank(q, bends))

    def test_very_many_bent_maps(self):
        """All scales, shifts, and one map whose bend has each power that shifts and scales can bring up."""
        for q in FIELDS:
            draw = samples.drawer(q, "very many")
            a = maker(q)
            for powers in ((6, 5), (6,), (5, 3), (4,), (6, 5, 3)):
                bend = tuple(1 if k in powers else 0 for k in range(max(powers) + 1))
                family = (straight(a, 0, 0, 0, 1, 0), straight(1, 0, 0, 0, a, 0), straight(1, 0, 0, 0, 1, 1),
                          (-1, (bend,), (), SAME))
                right = (q - 1) ** 2 * q * q ** scaled_rank(q, bend)
                self.check_steps(q, draw, family, samples.step(q, draw, (3,)), right)
                if right > 2000:
                    self.assertIsNone(sizes.deeds(q, family))
            if q == 16:
                self.assertEqual(right, 225 * 16 * 16 ** 7)
                self.assertGreater(right, 10 ** 11)

    def test_endless(self):
        for q in FIELDS:
            draw = samples.drawer(q, "endless")
            for family in ((TURNED, BENT), (samples.core(q, draw, (2,)),), endless_family(q, draw)):
                self.assertIsNone(sizes.many_deeds(q, family))
                self.assertIsNone(sizes.deeds(q, family))


def digits(q, numbers):
    if q not in reference.ROOTS:
        return list(numbers)
    return [digit for n in numbers for digit in reference.digits(q, n)]


def rank(p, rows):
    """How many of some rows of integers are needed to make the others, with remainders by p."""
    rows, many = [list(row) for row in rows], 0
    for column in range(len(rows[0])):
        for row in rows[many:]:
            if row[column] % p:
                rows.remove(row)
                rows.insert(many, row)
                share = pow(row[column], -1, p)
                for other in rows[many + 1:]:
                    scale = other[column] * share
                    other[:] = [(n - scale * k) % p for n, k in zip(other, row)]
                many += 1
                break
    return many


def digit_rank(q, bends):
    return rank(reference.characteristic(q), [digits(q, bend + (0,) * (7 - len(bend))) for bend in bends])


def shifted(q, numbers, scale, shift):
    """The numbers of h(scale y + shift)."""
    inner = {at: n for at, n in (((1, 0), scale), ((0, 0), shift)) if n}
    found = reference.put(q, {(k, 0): n for k, n in enumerate(numbers) if n}, (inner, {}))
    return [found.get((k, 0), 0) for k in range(7)]


def field_rank(q, rows):
    """How many of some rows over the field are needed to make the others."""
    rows, many = [list(row) for row in rows], 0
    for column in range(7):
        found = [row for row in rows if row[column]]
        if found:
            rows.remove(found[0])
            share = reference.inverse(q, found[0][column])
            for row in found[1:]:
                scale = reference.opposite(q, reference.times(q, row[column], share))
                row[:] = [reference.plus(q, n, reference.times(q, scale, k)) for n, k in zip(row, found[0])]
            many += 1
    return many


def scaled_rank(q, bend):
    """The number of rows over the field that all h(e y + f) make, e not being 0."""
    return field_rank(q, [shifted(q, bend, e, f) for e in range(1, q) for f in range(q)])


class Deeds(unittest.TestCase):
    def test_against_listing(self):
        for q in FIELDS:
            draw = samples.drawer(q, "listed")
            for family, listed, change in few_deeds(q, draw, 200):
                found = sizes.deeds(q, family)
                self.assertEqual(found, tuple(sorted(listed)))
                self.check_members(q, draw, family, listed, change)

    def check_members(self, q, draw, family, listed, change):
        for step in list(listed)[:20]:
            self.assertIs(sizes.is_deed(q, family, step), True)
        tries = [samples.step(q, draw, (2,)), samples.straight_step(q, draw), samples.bent_step(q, draw), change, TURNED]
        tries += [plain.seen_back(q, s, change) for s in tries[1:]] + [samples.step(q, draw, (2,) * 20)]
        for step in tries:
            self.assertIs(sizes.is_deed(q, family, step), step in listed)
            self.assertEqual(sizes.word_for(q, family, step), listed.get(step))

    def test_nothing_alone(self):
        for q in FIELDS:
            self.assertEqual(sizes.deeds(q, (NOTHING,)), (NOTHING,))
            self.assertEqual(sizes.many_deeds(q, (NOTHING, NOTHING)), 1)
            self.assertEqual(sizes.by_length(q, (NOTHING,)), (1,))
            self.assertEqual(sizes.orders_of(q, (NOTHING,)), ((1, 1),))
            self.assertEqual(sizes.middle(q, (NOTHING,)), (NOTHING,))
            self.assertEqual(sizes.word_for(q, (NOTHING,), NOTHING), ())

    def test_just_two_thousand(self):
        """Over 5 the maps of both sorts are 16 * 125."""
        maps = ((2, 0, 0, 0, 1, 0), (1, 0, 0, 0, 2, 0), (1, 0, 0, 0, 1, 1), (1, 1, 0, 0, 1, 0))
        change = samples.step(5, samples.drawer("just"), (2, 2))
        family = tuple(plain.seen_back(5, (-1, (), (), m), change) for m in maps)
        found = sizes.deeds(5, family)
        self.assertEqual([len(found), sizes.many_deeds(5, family)], [2000, 2000])
        self.assertEqual(found, tuple(sorted(set(found))))
        right = {plain.seen_back(5, (-1, (), (), m), change) for m in plain.maps_of_both(5)}
        self.assertEqual(set(found), right)
        self.assertEqual(sum(sizes.by_length(5, family)), 2000)
        self.assertEqual(sum(many for _, many in sizes.orders_of(5, family)), 2000)

    def test_more_than_two_thousand(self):
        seven = (straight(1, 0, 1, 0, 1, 0), straight(1, 0, 0, 0, 1, 1), straight(1, 1, 0, 0, 1, 0), straight(3, 0, 0, 0, 1, 0))
        families_and_sizes = (
            (7, (straight(3, 0, 0, 0, 1, 0), straight(1, 1, 0, 0, 1, 0), TURNED), 48 * 42),
            (7, seven, 343 * 6), (4, (straight(2, 0, 0, 0, 1, 0), straight(1, 1, 0, 0, 1, 0), TURNED, seven[0]), 180 * 16),
        )
        for q, family, right in families_and_sizes:
            self.assertEqual(sizes.many_deeds(q, family), right)
            self.assertIsNone(sizes.deeds(q, family))

    def test_members_of_very_many(self):
        for q in FIELDS:
            draw = samples.drawer(q, "members")
            for sort in ("straight", "bent"):
                change = samples.step(q, draw, (2, 2))
                family = tuple(plain.seen_back(q, s, change) for s in samples.steps_of_sort(q, draw, sort, 3))
                for length in (0, 1, 4, 12):
                    word = samples.word(draw, 3, length)
                    self.assertIs(sizes.is_deed(q, family, families.word_step(q, family, word)), True)
                self.assertIs(sizes.is_deed(q, family, samples.core(q, draw, (2, 3))), False)
                self.assertIs(sizes.is_deed(q, family, plain.seen_back(q, samples.core(q, draw, (2,)), change)), False)
            a = maker(q)
            whole = (straight(a, 0, 0, 0, 1, 0), straight(1, 1, 0, 0, 1, 0), TURNED, straight(1, 0, 1, 0, 1, 0))
            one = (*whole[1:2], straight(1, 0, 0, 1, 1, 0), straight(a, 0, 0, 0, reference.inverse(q, a), 0), whole[3])
            for _ in range(6):
                step = samples.straight_step(q, draw)
                self.assertIs(sizes.is_deed(q, whole, step), True)
                self.assertIs(sizes.is_deed(q, one, step), steps.determinant_of(q, step) == 1)
            self.assertIs(sizes.is_deed(q, whole, BENT), False)

    def test_bent_members(self):
        """With scales and shifts, and a bend y^4: the deeds are told by the powers that come up."""
        for q in FIELDS:
            draw = samples.drawer(q, "bent members")
            a = maker(q)
            bend = (0, 0, 0, 0, 1)
            family = (straight(a, 0, 0, 0, 1, 0), straight(1, 0, 0, 0, a, 0), straight(1, 0, 0, 0, 1, 1), (-1, (bend,), (), SAME))
            size = scaled_rank(q, bend)
            for _ in range(12):
                last = samples.map_of_both(q, draw)
                step = draw.choice(((-1, (), (), last), (-1, (samples.bend(q, draw, draw.randrange(2, 6)),), (), last)))
                numbers = [last[2], last[1]] + [0] * 5
                for found in step[1]:
                    for k in range(2, len(found)):
                        numbers[k] = reference.times(q, last[0], found[k])
                rows = [tuple(shifted(q, bend, e, f)) for e in range(1, q) for f in range(q)]
                right = field_rank(q, rows + [tuple(numbers)]) == size
                self.assertIs(sizes.is_deed(q, family, step), right)


class Listed(unittest.TestCase):
    def test_words(self):
        for q in FIELDS:
            draw = samples.drawer(q, "words")
            for family, listed, _ in few_deeds(q, draw, 120, 5):
                for step, word in list(listed.items())[:60]:
                    found = sizes.word_for(q, family, step)
                    self.assertEqual([found, type(found)], [word, tuple])
                    self.assertEqual(families.word_step(q, family, found), step)

    def test_same_steps_twice(self):
        """A letter for a step that is there twice, or undone, is the least one."""
        for q in FIELDS:
            step = straight(1, 0, 1, 0, 1, 0)
            undone = steps.undoing(q, step)
            both = -2 if step == undone else -1
            for family, right in (((step, step), -2 if both == -2 else 1), ((step, undone), -2), ((undone, step), both)):
                self.assertEqual(sizes.word_for(q, family, step), (right,))

    def test_long_words(self):
        for q in FIELDS:
            root = straight(maker(q), 0, 0, 0, 1, 0)
            for n in range(q - 1):
                right = (1,) * n if n < (q - 1) / 2 else (-1,) * (q - 1 - n)
                self.assertEqual(sizes.word_for(q, (root,), plain_repeat(q, root, n)), right)
            self.assertIsNone(sizes.word_for(q, (root,), BENT))

    def test_lengths(self):
        for q in FIELDS:
            draw = samples.drawer(q, "lengths")
            for family, listed, _ in few_deeds(q, draw, 250, 5):
                lengths = [len(word) for word in listed.values()]
                right = tuple(lengths.count(n) for n in range(max(lengths) + 1))
                self.assertEqual(sizes.by_length(q, family), right)

    def test_orders(self):
        for q in FIELDS:
            draw = samples.drawer(q, "orders")
            for family, listed, _ in few_deeds(q, draw, 120, 5):
                orders = [plain.order(q, step) for step in listed]
                right = tuple((n, orders.count(n)) for n in sorted(set(orders)))
                self.assertEqual(sizes.orders_of(q, family), right)

    def test_middle(self):
        for q in FIELDS:
            draw = samples.drawer(q, "middle")
            for family, listed, _ in few_deeds(q, draw, 60, 5):
                right = [
                    one for one in listed
                    if all(steps.product(q, one, other) == steps.product(q, other, one) for other in listed)
                ]
                self.assertEqual(sizes.middle(q, family), tuple(sorted(right)))

    def test_great_orders(self):
        """A straight map of the order q q - 1, seen by another step."""
        for q in FIELDS:
            draw = samples.drawer(q, "great")
            maps = ((0, 1, 0, d, e, 0) for d in range(1, q) for e in range(q))
            found = next(m for m in maps if plain.straight_order(q, m) == q * q - 1)
            family = (plain.seen_back(q, (-1, (), (), found), samples.step(q, draw, (2, 3))),)
            many = q * q - 1
            right = tuple((n, sum(1 for k in range(many) if order_of_part(many, k) == n)) for n in range(1, many + 1))
            self.assertEqual(sizes.orders_of(q, family), tuple(pair for pair in right if pair[1]))
            self.assertEqual(len(sizes.middle(q, family)), many)
            self.assertEqual(sizes.by_length(q, family), (1,) + (2,) * ((many - 1) // 2) + (1,) * ((many - 1) % 2))


def order_of_part(many, k):
    return next(n for n in range(1, many + 1) if n * k % many == 0)


def plain_repeat(q, step, n):
    found = NOTHING
    for _ in range(n):
        found = steps.product(q, found, step)
    return found


class Refused(unittest.TestCase):
    def test_bad_families(self):
        for q in FIELDS:
            for family, place in ((None, -1), ((), -1), ([NOTHING], -1), ((NOTHING,) * 5, -1), ((None,), 0),
                                  ((NOTHING, 5, None), 1), ((TURNED, BENT, BENT, True), 3)):
                calls = [lambda ask=ask: ask(q, family) for ask in ASKED]
                calls += [lambda ask=ask: ask(q, family, None) for ask in (sizes.is_deed, sizes.word_for)]
                for call in calls:
                    with self.assertRaises(BadFamily) as caught:
                        call()
                    self.assertEqual(caught.exception.place, place)

    def test_bad_steps_ahead_of_endless_families(self):
        for q in FIELDS:
            draw = samples.drawer(q, "bad")
            for family in ((TURNED, BENT), (TURNED,), (BENT, NOTHING)):
                for bad in samples.odd_values() + samples.spoilt(samples.step(q, draw, (2, 3)), draw, 20):
                    if reference.is_step(q, bad):
                        continue
                    for ask in (sizes.is_deed, sizes.word_for):
                        with self.assertRaises(BadStep) as caught:
                            ask(q, family, bad)
                        self.assertIs(caught.exception.thing, bad)

    def test_endless_families(self):
        for q in FIELDS:
            draw = samples.drawer(q, "not finite")
            for family in ((TURNED, BENT), (NOTHING, samples.core(q, draw, (3,))), endless_family(q, draw)):
                right = families.judge_finite(q, family)
                calls = [lambda ask=ask: ask(q, family) for ask in (sizes.by_length, sizes.middle, sizes.orders_of)]
                calls += [lambda ask=ask: ask(q, family, family[0]) for ask in (sizes.is_deed, sizes.word_for)]
                for call in calls:
                    with self.assertRaises(NotFinite) as caught:
                        call()
                    self.assertEqual(caught.exception.certificate, right)


if __name__ == "__main__":
    unittest.main()
