"""Part 7, [7.1] and [7.2]: places, their steps, and the ways between them."""

import itertools
import unittest

from bentplane import places, steps
from bentplane.errors import BadPlace, BadStep
from tests import plain, reference, samples
from tests.plain import BENT_ROOT, NOTHING, ROOT, SAME
from tests.reference import FIELDS
from tests.test_kinds import any_steps

BEND = (0, 0, 1)
SORTS = ("straight", "bent")


def near_places(q, draw):
    """Places some of which stand close to one another."""
    found = [ROOT, BENT_ROOT, ("bent", 0, (), ()), ("bent", q - 1, (), ())]
    found += samples.places(q, draw, (1, 1, 2))
    deep = samples.place(q, draw, "bent", 3)
    found += plain.path_to_root(deep)
    found.append(("straight", deep[1], (*deep[2], BEND), deep[3]))
    found.append(("bent", deep[1], deep[2], (*deep[3][:2], reference.plus(q, deep[3][2], 1))))
    return found


def bends_up_to(q, degree):
    found = []
    for most in range(2, degree + 1):
        found += [(0, 0, *part, c) for part in itertools.product(range(q), repeat=most - 2) for c in range(1, q)]
    return sorted(found)


def tree_over_2(many):
    """All places over 2 with bends of degree 2 alone, and of at most so many bends."""
    found = [ROOT, *[("bent", start, (), ()) for start in (-1, 0, 1)]]
    for length in range(1, many + 1):
        for start in (-1, 0, 1):
            for turns in itertools.product(range(2), repeat=length):
                found.append(("bent", start, (BEND,) * length, turns))
            for turns in itertools.product(range(2), repeat=length - 1):
                found.append(("straight", start, (BEND,) * length, turns))
    return found


class IsPlace(unittest.TestCase):
    def test_right_ones(self):
        for q in FIELDS:
            draw = samples.drawer(q, "right places")
            for place in near_places(q, draw) + samples.places(q, draw, (1, 5, 12, 24)):
                self.assertIs(places.is_place(q, place), True)

    def test_wrong_ones(self):
        for q in FIELDS:
            wrong = (
                ("straight", 0, (), ()), ("straight", -1, (), (0,)), ("straight", -1, (BEND,), (0,)),
                ("straight", -1, (BEND, BEND), ()), ("straight", -2, (BEND,), ()), ("straight", q, (BEND,), ()),
                ("bent", -1, (), (0,)), ("bent", -1, (BEND,), ()), ("bent", -1, (BEND,), (0, 0)), ("bent", q, (), ()),
                ("bent", -2, (), ()), ("bent", True, (), ()), ("straight", False, (BEND,), ()), ("bent", None, (), ()),
                ("root", -1, (), ()), ("", -1, (), ()), (None, -1, (), ()), (0, -1, (), ()), (("bent",), -1, (), ()),
                ("bent", -1, [], ()), ("bent", -1, (), []), ["bent", -1, (), ()], ("bent", -1, ()), ("bent", -1, (), (), ()),
                ("bent", -1, (BEND,), (q,)), ("bent", -1, (BEND,), (-1,)), ("bent", -1, (BEND,), (True,)),
                ("bent", -1, ([0, 0, 1],), (0,)), ("bent", -1, ((0, 1),), (0,)), ("bent", -1, ((0, 0, q),), (0,)),
                ("bent", -1, ((0, 0, 0, 0, 0, 0, 0, 1),), (0,)), ("bent", -1, BEND, (0, 0, 0)), ("bent", -1, None, ()),
                ("bent", -1, (), None), ("bent", -1, {}, ()), ("bent", "0", (), ()), ("straight", -1, (), SAME), NOTHING,
                ("BENT", -1, (), ()), ("straight", -1, (), (), ()), (), None, "root", -1, {}, [],
            )
            for thing in wrong:
                self.assertIs(places.is_place(q, thing), False, thing)

    def test_any_value(self):
        for q in FIELDS:
            draw = samples.drawer(q, "is place")
            things = samples.odd_values()
            for place in samples.places(q, draw, (0, 1, 2, 3)):
                things += samples.spoilt(place, draw, 120)
            for thing in things:
                self.assertIs(places.is_place(q, thing), plain.is_place(q, thing), thing)


class StepsOfPlaces(unittest.TestCase):
    def test_step_of_place(self):
        for q in FIELDS:
            draw = samples.drawer(q, "step of place")
            for place in near_places(q, draw) + samples.places(q, draw, (4, 12, 24)):
                step = places.step_of_place(q, place)
                self.assertTrue(reference.is_step(q, step))
                self.assertEqual(step, steps.step_of_row(q, plain.place_row(place)))
                self.assertEqual(places.place_of(q, step, place[0]), place)
            self.assertEqual(places.step_of_place(q, ROOT), NOTHING)
            self.assertEqual(places.step_of_place(q, BENT_ROOT), NOTHING)

    def test_steps_that_lie_in_a_place(self):
        for q in FIELDS:
            draw = samples.drawer(q, "lie in")
            for place in near_places(q, draw) + samples.places(q, draw, (4, 11)):
                step = places.step_of_place(q, place)
                for _ in range(3):
                    one = samples.straight_step(q, draw) if place[0] == "straight" else self.bent_map(q, draw)
                    self.assertEqual(places.place_of(q, steps.product(q, step, one), place[0]), place)

    def bent_map(self, q, draw):
        return draw.choice((samples.bent_step(q, draw), (-1, (), (), samples.map_of_both(q, draw))))

    def test_place_of_drawn_steps(self):
        for q in FIELDS:
            draw = samples.drawer(q, "place of")
            for step in any_steps(q, draw, 12) + any_steps(q, draw, 4) + any_steps(q, draw, 4):
                for sort in SORTS:
                    place = places.place_of(q, step, sort)
                    self.assertTrue(plain.is_place(q, place))
                    self.assertEqual(place[0], sort)
                    self.assertTrue(plain.lies_in(q, step, place))
                both = [places.place_of(q, step, sort) for sort in SORTS]
                self.assertIs(places.are_beside(q, *both), True)

    def test_just_one_place_of_each_sort(self):
        draw = samples.drawer("just one")
        every = tree_over_2(3)
        for _ in range(30):
            many = draw.randrange(3)
            step = samples.step(2, draw, (2,) * many)
            for sort in SORTS:
                right = [place for place in every if place[0] == sort and plain.lies_in(2, step, place)]
                self.assertEqual(right, [places.place_of(2, step, sort)])

    def test_steps_of_neighbours(self):
        """Two places are beside one another exactly if a step lies in both and they are of two sorts."""
        for q in FIELDS:
            draw = samples.drawer(q, "neighbours")
            found = near_places(q, draw)
            for one, other in itertools.product(found, repeat=2):
                near, far = (one, other) if one[0] == "bent" else (other, one)
                both = one[0] != other[0] and self.meet(q, near, far)
                self.assertIs(places.are_beside(q, one, other), both)

    def meet(self, q, bent, straight):
        """Whether some step lies in a bent and in a straight place: they stand for bent and for straight maps."""
        first, second = [steps.step_of_row(q, plain.place_row(place)) for place in (bent, straight)]
        # A step lies in both exactly if the undone first one and then the second one is a bent map and
        # then a straight one, so just if one bend is left, or none, and no turn stands ahead of it.
        rest = steps.product(q, steps.undoing(q, first), second)
        return rest[1] == () or (rest[0] == -1 and len(rest[1]) == 1)


class Ways(unittest.TestCase):
    def test_ahead_and_depth(self):
        for q in FIELDS:
            draw = samples.drawer(q, "ahead")
            for place in near_places(q, draw) + samples.places(q, draw, (5, 24)):
                found = places.ahead(q, place)
                self.assertEqual(found, plain.ahead(place))
                self.assertEqual(places.depth(q, place), len(plain.path_to_root(place)) - 1)
                self.assertEqual(places.depth(q, place), 2 * len(place[2]) + (place[0] == "bent"))
                if found is not None:
                    self.assertEqual(places.depth(q, found), places.depth(q, place) - 1)
                    self.assertEqual(plain.place_row(place)[:len(plain.place_row(found))], plain.place_row(found))
            self.assertIs(places.ahead(q, ROOT), None)
            self.assertEqual(places.ahead(q, BENT_ROOT), ROOT)

    def test_are_beside(self):
        for q in FIELDS:
            found = near_places(q, samples.drawer(q, "beside"))
            for one, other in itertools.product(found, repeat=2):
                right = plain.ahead(one) == other or plain.ahead(other) == one
                self.assertIs(places.are_beside(q, one, other), right)

    def check_way(self, q, one, other):
        way = places.way_between(q, one, other)
        self.assertIs(type(way), tuple)
        self.assertEqual(way, plain.way(one, other))
        self.assertEqual([way[0], way[-1]], [one, other])
        self.assertEqual(len(set(way)), len(way))
        for at, place in enumerate(way):
            self.assertEqual(places.distance(q, one, place), at)
            self.assertEqual(places.distance(q, place, other), len(way) - 1 - at)
        for near, far in zip(way, way[1:]):
            self.assertIs(places.are_beside(q, near, far), True)
        self.assertEqual(places.way_between(q, other, one), way[::-1])

    def test_ways(self):
        for q in FIELDS:
            draw = samples.drawer(q, "ways")
            found = near_places(q, draw)
            for one, other in itertools.product(found, repeat=2):
                self.check_way(q, one, other)
            one, other = samples.place(q, draw, "bent", 24), samples.place(q, draw, "straight", 24)
            near = ("straight", one[1], one[2][:20] + other[2][20:], one[3][:19] + other[3][:4])
            for first, second in ((one, other), (one, near), (near, other), (one, one)):
                self.check_way(q, first, second)

    def test_distances_over_2(self):
        """Distances are found by going from neighbour to neighbour, from each place on."""
        every = tree_over_2(2)
        beside = {place: [other for other in every if places.are_beside(2, place, other)] for place in every}
        for first in every:
            found, row = {first: 0}, [first]
            for place in row:
                for other in beside[place]:
                    if other not in found:
                        found[other] = found[place] + 1
                        row.append(other)
            self.assertEqual(set(found), set(every))
            for place in every:
                self.assertEqual(places.distance(2, first, place), found[place])

    def test_places_with_a_common_beginning(self):
        """Turns or bends part only at the start, in the middle, or at the end."""
        b, c = (0, 0, 1), (0, 0, 0, 1)
        one = ("straight", 0, (b, b, b), (0, 0))
        for other, right in (
            (("straight", -1, (b, b, b), (0, 0)), 12), (("straight", 0, (c, b, b), (0, 0)), 10),
            (("straight", 0, (b, b, b), (1, 0)), 8), (("straight", 0, (b, c, b), (0, 0)), 6),
            (("straight", 0, (b, b, b), (0, 1)), 4), (("straight", 0, (b, b, c), (0, 0)), 2), (one, 0),
        ):
            for q in FIELDS:
                self.assertEqual(places.distance(q, one, other), right)


class Behind(unittest.TestCase):
    def test_listed_places(self):
        for q in FIELDS:
            draw = samples.drawer(q, "behind")
            for place in near_places(q, draw)[:9] + samples.places(q, draw, (5,)):
                for degree in range(2, 7):
                    if place[0] == "bent" and q ** (degree - 1) > 2001:
                        continue
                    found = places.behind(q, place, degree)
                    self.assertIs(type(found), tuple)
                    self.assertEqual(found, tuple(sorted(found)))
                    self.assertEqual(found, self.plain_behind(q, place, degree))
                    self.assertEqual(places.many_behind(q, place, degree), len(found))
                    for other in found[:3] + found[-3:]:
                        self.assertEqual(places.ahead(q, other), place)

    def plain_behind(self, q, place, degree):
        sort, start, bends, turns = place
        if place == ROOT:
            return tuple(("bent", number, (), ()) for number in range(-1, q))
        if sort == "straight":
            return tuple(("bent", start, bends, (*turns, number)) for number in range(q))
        return tuple(("straight", start, (*bends, bend), turns) for bend in bends_up_to(q, degree))

    def test_many(self):
        for q in FIELDS:
            draw = samples.drawer(q, "many behind")
            for degree in range(2, 7):
                right = sum((q - 1) * q ** (most - 2) for most in range(2, degree + 1))
                for many in (0, 1, 3, 24):
                    self.assertEqual(places.many_behind(q, samples.place(q, draw, "bent", many), degree), right)
                    if many > 0:
                        self.assertEqual(places.many_behind(q, samples.place(q, draw, "straight", many), degree), q)
                self.assertEqual(places.many_behind(q, ROOT, degree), q + 1)

    def test_whole_tree_over_2(self):
        every = set(tree_over_2(3))
        found, row = {ROOT}, [ROOT]
        for place in row:
            behind = [other for other in places.behind(2, place, 2) if len(other[2]) <= 3]
            self.assertFalse(found & set(behind))
            found.update(behind)
            row += behind
        self.assertEqual(found, every)


class Refused(unittest.TestCase):
    def bad_places(self, q):
        draw = samples.drawer(q, "bad places")
        things = samples.odd_values()
        for place in samples.places(q, draw, (0, 1, 2)):
            things += samples.spoilt(place, draw, 30)
        return [thing for thing in things if not plain.is_place(q, thing)]

    def test_first_that_is_no_place(self):
        for q in FIELDS:
            good, other = samples.place(q, samples.drawer(q, "good"), "bent", 2), ("no", "place")
            for bad in self.bad_places(q):
                calls = (
                    lambda: places.step_of_place(q, bad), lambda: places.ahead(q, bad), lambda: places.depth(q, bad),
                    lambda: places.are_beside(q, bad, other), lambda: places.are_beside(q, good, bad),
                    lambda: places.distance(q, bad, other), lambda: places.distance(q, good, bad),
                    lambda: places.way_between(q, bad, other), lambda: places.way_between(q, good, bad),
                    lambda: places.many_behind(q, bad, 2), lambda: places.behind(q, bad, 2),
                    lambda: places.distance(q, bad, bad),
                )
                for call in calls:
                    with self.assertRaises(BadPlace) as caught:
                        call()
                    self.assertIs(caught.exception.thing, bad)

    def test_place_of(self):
        for q in FIELDS:
            draw = samples.drawer(q, "place of")
            good = samples.step(q, draw, (2, 3))
            for bad in samples.odd_values() + samples.spoilt(good, draw, 40):
                if not reference.is_step(q, bad):
                    for sort in ("bent", "root", bad):
                        with self.assertRaises(BadStep) as caught:
                            places.place_of(q, bad, sort)
                        self.assertIs(caught.exception.thing, bad)
                if bad not in SORTS:
                    with self.assertRaises(BadPlace) as caught:
                        places.place_of(q, good, bad)
                    self.assertIs(caught.exception.thing, bad)
            for sort in ("root", "Bent", "bent ", "", None, 0, True, ("bent",), ["bent"], {}, good, BENT_ROOT):
                with self.assertRaises(BadPlace) as caught:
                    places.place_of(q, good, sort)
                self.assertIs(caught.exception.thing, sort)


if __name__ == "__main__":
    unittest.main()
