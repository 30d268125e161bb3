"""Part 7, [7.3] and [7.4]: moves, and the places that a step moves least."""

import itertools
import unittest

from bentplane import kinds, places, steps, tree
from bentplane.errors import BadPlace, BadStep, NotGrowing
from tests import plain, reference, samples
from tests.plain import BENT_ROOT, NOTHING, ROOT, SAME, SWAP
from tests.reference import FIELDS
from tests.test_kinds import any_steps, growing_steps, resting_steps
from tests.test_places import near_places, tree_over_2

BEND = (0, 0, 1)


def few_places(q, draw):
    return [ROOT, BENT_ROOT, ("bent", q - 1, (), ()), *samples.places(q, draw, (1, 2, 3))]


def few_steps(q, draw):
    """Steps that rest and steps that grow, short ones and others, with at most 12 bends."""
    found = any_steps(q, draw, 4) + [samples.step(q, draw, samples.some_degrees(draw, 12))]
    found += resting_steps(q, draw)[2:14:2] + [step for step, _ in growing_steps(q, draw)]
    return found


def placed(q, place):
    return steps.step_of_row(q, plain.place_row(place))


class Moves(unittest.TestCase):
    def test_where_the_product_lies(self):
        """Whatever step is taken that lies in the place."""
        for q in FIELDS:
            draw = samples.drawer(q, "moved")
            for step in few_steps(q, draw):
                for place in few_places(q, draw):
                    found = tree.moved(q, step, place)
                    self.assertTrue(plain.is_place(q, found))
                    self.assertEqual(found[0], place[0])
                    one = samples.straight_step(q, draw)
                    if place[0] == "bent":
                        one = draw.choice((samples.bent_step(q, draw), (-1, (), (), samples.map_of_both(q, draw))))
                    lying = steps.product(q, placed(q, place), one)
                    self.assertTrue(plain.lies_in(q, steps.product(q, step, lying), found))

    def test_products(self):
        """The product of s and t moves a place to where s moves the place to which t moves it."""
        for q in FIELDS:
            draw = samples.drawer(q, "products")
            few = few_steps(q, draw)[1::3]
            for s, t in itertools.product(few, repeat=2):
                for place in few_places(q, draw)[1::2]:
                    both = tree.moved(q, steps.product(q, s, t), place)
                    self.assertEqual(both, tree.moved(q, s, tree.moved(q, t, place)))

    def test_moved_back(self):
        for q in FIELDS:
            draw = samples.drawer(q, "back")
            for step in few_steps(q, draw):
                for place in few_places(q, draw):
                    less = steps.undoing(q, step)
                    self.assertEqual(tree.moved(q, less, tree.moved(q, step, place)), place)
                    self.assertEqual(tree.moved(q, NOTHING, place), place)

    def test_sorts_neighbours_and_distances_stay(self):
        for q in FIELDS:
            draw = samples.drawer(q, "stay")
            found = near_places(q, draw)[::2]
            for step in few_steps(q, draw)[::2]:
                after = [tree.moved(q, step, place) for place in found]
                for (one, moved_one), (other, moved_other) in itertools.product(zip(found, after), repeat=2):
                    self.assertEqual(one[0], moved_one[0])
                    right = len(plain.way(one, other)) - 1
                    self.assertEqual(places.distance(q, moved_one, moved_other), right)
                    self.assertIs(places.are_beside(q, moved_one, moved_other), right == 1)

    def test_the_step_of_a_place_moves_the_root_there(self):
        for q in FIELDS:
            draw = samples.drawer(q, "from the root")
            for place in few_places(q, draw) + samples.places(q, draw, (10,)):
                root = ROOT if place[0] == "straight" else BENT_ROOT
                self.assertEqual(tree.moved(q, placed(q, place), root), place)

    def test_24_bends(self):
        for q in FIELDS:
            draw = samples.drawer(q, "24")
            for sort in ("straight", "bent"):
                place = samples.place(q, draw, sort, 24)
                for step in (samples.step(q, draw, samples.some_degrees(draw, 12)), samples.straight_step(q, draw)):
                    self.assertTrue(plain.lies_in(q, steps.product(q, step, placed(q, place)), tree.moved(q, step, place)))


class Kept(unittest.TestCase):
    def test_root_and_first_bent_place(self):
        for q in FIELDS:
            draw = samples.drawer(q, "root")
            few = few_steps(q, draw) + [samples.bent_step(q, draw), samples.straight_step(q, draw), NOTHING]
            few += [(-1, (), (), samples.map_of_both(q, draw)), (-1, (), (), SWAP), (0, (BEND,), (), SAME)]
            for step in few:
                self.assertIs(tree.is_kept(q, step, ROOT), step[1] == ())
                self.assertIs(tree.is_kept(q, step, BENT_ROOT), plain.is_bent_map(step))

    def test_other_places(self):
        """A step keeps a place exactly if it is a map of the place's sort, seen by the undone step of the place."""
        for q in FIELDS:
            draw = samples.drawer(q, "kept")
            for place in few_places(q, draw):
                for one in (samples.straight_step(q, draw), samples.bent_step(q, draw), samples.step(q, draw, (2,))):
                    right = one[1] == () if place[0] == "straight" else plain.is_bent_map(one)
                    step = plain.seen_back(q, one, placed(q, place))
                    self.assertIs(tree.is_kept(q, step, place), right)
                    self.assertIs(tree.moved(q, step, place) == place, right)
                self.assertIs(tree.is_kept(q, NOTHING, place), True)

    def test_a_step_that_keeps_a_place_rests(self):
        every = tree_over_2(2)
        draw = samples.drawer("kept rests")
        for _ in range(60):
            step = samples.step(2, draw, (2,) * draw.randrange(5))
            kept = [place for place in every if tree.is_kept(2, step, place)]
            if kept:
                self.assertEqual(plain.walk(2, step), 0)


class Lines(unittest.TestCase):
    def test_distances(self):
        for q in FIELDS:
            draw = samples.drawer(q, "distances")
            for step in few_steps(q, draw):
                walk = plain.walk(q, step)
                for place in few_places(q, draw):
                    far = len(plain.way(place, tree.moved(q, step, place))) - 1
                    self.assertEqual(far % 2, 0)
                    self.assertGreaterEqual(far, walk)
                    self.assertIs(tree.is_on_line(q, step, place), far == walk)

    def check_nearest(self, q, step, place):
        found = tree.nearest(q, step, place)
        self.assertTrue(plain.is_place(q, found))
        self.assertIs(tree.is_on_line(q, step, found), True)
        walk = plain.walk(q, step)
        there = plain.way(place, tree.moved(q, step, place))
        self.assertEqual(found, there[(len(there) - 1 - walk) // 2])
        way = plain.way(place, found)
        for other in way[:-1]:
            self.assertIs(tree.is_on_line(q, step, other), False)
        return found

    def test_nearest(self):
        for q in FIELDS:
            draw = samples.drawer(q, "nearest")
            for step in few_steps(q, draw):
                found = [self.check_nearest(q, step, place) for place in few_places(q, draw)]
                # The places moved least hang together: so does the way between two of them.
                hanging = {place for one, other in zip(found, found[1:]) for place in plain.way(one, other)}
                for place in hanging:
                    self.assertIs(tree.is_on_line(q, step, place), True)
                self.assertEqual(self.check_nearest(q, step, found[-1]), found[-1])

    def test_all_places_over_2(self):
        """Just one of the places moved least is nearest, and no step moves a place by less than its walk."""
        every = tree_over_2(2)
        draw = samples.drawer("all places")
        for many in (0, 0, 1, 1, 1, 2, 2, 2):
            step = samples.step(2, draw, (2,) * many)
            walk = plain.walk(2, step)
            far = {place: len(plain.way(place, tree.moved(2, step, place))) - 1 for place in every}
            self.assertGreaterEqual(min(far.values()), walk)
            line = [place for place in every if far[place] == walk]
            self.assertEqual(line, [place for place in every if tree.is_on_line(2, step, place)])
            for place in every:
                found = tree.nearest(2, step, place)
                if found in far:
                    right = min(len(plain.way(place, other)) for other in line)
                    self.assertEqual([o for o in line if len(plain.way(place, o)) == right], [found])

    def test_line_stretch(self):
        for q in FIELDS:
            draw = samples.drawer(q, "stretch")
            growing = [step for step, _ in growing_steps(q, draw)]
            growing += [step for step in few_steps(q, draw) if plain.walk(q, step) > 0]
            for step in growing:
                found = tree.line_stretch(q, step)
                self.assertIs(type(found), tuple)
                self.assertEqual(len(found), plain.walk(q, step) + 1)
                self.assertEqual(found[0], tree.nearest(q, step, ROOT))
                self.assertEqual(found[-1], tree.moved(q, step, found[0]))
                self.assertEqual(found, plain.way(found[0], found[-1]))
                for place in found:
                    self.assertIs(tree.is_on_line(q, step, place), True)
                # Two stretches, one behind the other, make one way without a turn back.
                after = tuple(tree.moved(q, step, place) for place in found)
                self.assertEqual(plain.way(found[0], after[-1]), found + after[1:])

    def test_line_of_a_short_step(self):
        for q in FIELDS:
            draw = samples.drawer(q, "short")
            step = samples.core(q, draw, (2, 3))
            _, bends, turns, last = step
            found = tree.line_stretch(q, step)
            right = (
                ROOT, BENT_ROOT, ("straight", -1, bends[:1], ()), ("bent", -1, bends[:1], turns),
                ("straight", -1, bends, turns),
            )
            self.assertEqual(found, right)

    def test_repeats_have_the_same_line(self):
        for q in FIELDS:
            draw = samples.drawer(q, "repeats")
            for step, _ in growing_steps(q, draw):
                if len(step[1]) > 4:
                    continue
                line = tree.line_stretch(q, step)
                for n in (-3, -2, -1, 2, 3):
                    again = steps.repeat(q, step, n)
                    for place in line + tuple(few_places(q, draw)):
                        right = tree.is_on_line(q, step, place)
                        self.assertIs(tree.is_on_line(q, again, place), right)
                        self.assertEqual(tree.nearest(q, again, place), tree.nearest(q, step, place))
                    self.assertEqual(len(tree.line_stretch(q, again)), abs(n) * (len(line) - 1) + 1)

    def test_seen_by_others(self):
        """What is seen by T has the places of its line where the undone T moves those of before."""
        for q in FIELDS:
            draw = samples.drawer(q, "others")
            for step in few_steps(q, draw)[::2]:
                change = samples.step(q, draw, samples.some_degrees(draw, draw.randrange(3)))
                other, less = plain.seen(q, step, change), steps.undoing(q, change)
                for place in few_places(q, draw):
                    there = tree.moved(q, less, place)
                    self.assertIs(tree.is_on_line(q, other, there), tree.is_on_line(q, step, place))
                    near = tree.moved(q, less, tree.nearest(q, step, place))
                    self.assertEqual(tree.nearest(q, other, there), near)

    def test_kept_places_of_resting_steps(self):
        for q in FIELDS:
            draw = samples.drawer(q, "still")
            for step in resting_steps(q, draw)[::2]:
                for place in few_places(q, draw):
                    near = tree.nearest(q, step, place)
                    self.assertIs(tree.is_kept(q, step, near), True)
                    self.assertIs(tree.is_on_line(q, step, place), tree.is_kept(q, step, place))


class Refused(unittest.TestCase):
    def test_steps_first_then_places(self):
        for q in FIELDS:
            draw = samples.drawer(q, "refused")
            good, place = samples.core(q, draw, (2, 3)), samples.place(q, draw, "straight", 2)
            calls = (tree.moved, tree.is_kept, tree.is_on_line, tree.nearest)
            for bad in samples.odd_values() + samples.spoilt(good, draw, 30) + samples.spoilt(place, draw, 30):
                for call in calls:
                    if not reference.is_step(q, bad):
                        for other in (place, bad, "no place"):
                            with self.assertRaises(BadStep) as caught:
                                call(q, bad, other)
                            self.assertIs(caught.exception.thing, bad)
                    if not plain.is_place(q, bad):
                        with self.assertRaises(BadPlace) as caught:
                            call(q, good, bad)
                        self.assertIs(caught.exception.thing, bad)
                if not reference.is_step(q, bad):
                    with self.assertRaises(BadStep) as caught:
                        tree.line_stretch(q, bad)
                    self.assertIs(caught.exception.thing, bad)

    def test_resting_steps_have_no_line(self):
        for q in FIELDS:
            for step in resting_steps(q, samples.drawer(q, "no line")):
                self.assertTrue(kinds.is_resting(q, step))
                with self.assertRaises(NotGrowing) as caught:
                    tree.line_stretch(q, step)
                self.assertIs(caught.exception.thing, step)


if __name__ == "__main__":
    unittest.main()
