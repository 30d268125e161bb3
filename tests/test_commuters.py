"""Part 8, [8.4] and [8.5]: steps that commute with a growing step, and its roots."""

import itertools
import unittest

from bentplane import commuters, counting, kinds, letters, steps, tree
from bentplane.errors import BadStep, NotGrowing
from tests import plain, reference, samples
from tests.plain import NOTHING, ROOT, SAME, SWAP
from tests.test_counting import listing, straight_maps, tuples_of
from tests.test_kinds import resting_steps
from tests.test_letters import ASKED, cores, seen_by_drawn

BEND, CUBE = (0, 0, 1), (0, 0, 0, 1)


def growing(q, draw, most, many):
    """Steps that grow with at most so many bends, some of them short, some of them repeats."""
    found = []
    for core in cores(q, draw, most, many):
        found += [core, seen_by_drawn(q, draw, core, most)]
    return found


def small_growing_steps(draw):
    """Steps over 2 whose commuters and roots can be looked for among all small steps."""
    found = [(-1, (BEND,), (), SWAP), (-1, ((0, 0, 1, 0, 1),), (), SWAP), (-1, (CUBE,), (), SWAP)]
    found += [steps.repeat(2, found[0], n) for n in (2, 3, -2)] + [steps.repeat(2, found[2], 2)]
    found += [samples.core(2, draw, degrees) for degrees in ((2,), (2, 2), (3, 2), (2, 2, 2))]
    change = samples.step(2, draw, (2,))
    found += [plain.seen_back(2, found[0], change), plain.seen_back(2, steps.repeat(2, found[7], 2), (0, *change[1:]))]
    return found


def commute(q, one, other):
    return steps.product(q, one, other) == steps.product(q, other, one)


class Resting(unittest.TestCase):
    def test_each_commutes_and_rests(self):
        for q, most in ASKED:
            for step in growing(q, samples.drawer(q, "resting"), most, 8):
                found = commuters.resting_commuters(q, step)
                self.assertIs(type(found), tuple)
                self.assertEqual(list(found), sorted(set(found)))
                self.assertIn(NOTHING, found)
                for one in found:
                    self.assertTrue(reference.is_step(q, one))
                    self.assertTrue(commute(q, one, step))
                    self.assertEqual(plain.walk(q, one), 0)

    def test_all_of_them(self):
        """For a short step all maps of both sorts are tried; a step that it is seen as has those seen likewise."""
        for q, most in ASKED:
            draw = samples.drawer(q, "all")
            for core in cores(q, draw, most, 5):
                right = [(-1, (), (), m) for m in plain.maps_of_both(q) if commute(q, (-1, (), (), m), core)]
                self.assertEqual(commuters.resting_commuters(q, core), tuple(sorted(right)))
                change = samples.step(q, draw, samples.some_degrees(draw, draw.randrange(2)))
                seen = sorted(plain.seen(q, one, change) for one in right)
                step = plain.seen(q, core, change)
                self.assertEqual(commuters.resting_commuters(q, step), tuple(seen))

    def test_products_and_undoings_of_them(self):
        for q, most in ASKED:
            for step in growing(q, samples.drawer(q, "group"), most, 4):
                found = commuters.resting_commuters(q, step)
                for one, other in itertools.product(found[:8], repeat=2):
                    self.assertIn(steps.product(q, one, other), found)
                    self.assertIn(steps.undoing(q, one), found)


class Least(unittest.TestCase):
    def made(self, q, r, resting, step):
        """Whether a step that commutes is the product of a repeat of r and one of those that rest."""
        n = plain.walk(q, step) // plain.walk(q, r)
        return any(
            steps.product(q, steps.repeat(q, r, sign * n), one) == step for sign in (1, -1) for one in resting
        )

    def test_commutes_and_grows(self):
        for q, most in ASKED:
            for step in growing(q, samples.drawer(q, "least"), most, 8):
                r = commuters.least_commuter(q, step)
                self.assertTrue(reference.is_step(q, r))
                self.assertTrue(commute(q, r, step))
                self.assertGreater(plain.walk(q, r), 0)
                self.assertEqual(plain.walk(q, step) % plain.walk(q, r), 0)
                resting = commuters.resting_commuters(q, step)
                self.assertTrue(self.made(q, r, resting, step))
                self.assertTrue(self.made(q, r, resting, steps.undoing(q, step)))
                for place in tree.line_stretch(q, step):
                    self.assertIs(tree.is_on_line(q, r, place), True)
                self.assertEqual(tree.nearest(q, r, ROOT), tree.nearest(q, step, ROOT))

    def test_repeats_and_products_with_resting_ones(self):
        for q, most in ASKED:
            draw = samples.drawer(q, "repeats")
            for core in cores(q, draw, most // 2, 4):
                n = draw.choice([n for n in (1, 2, 3) if n * len(core[1]) <= most])
                for one in commuters.resting_commuters(q, core)[:4]:
                    step = steps.product(q, steps.repeat(q, core, n), one)
                    r = commuters.least_commuter(q, step)
                    self.assertTrue(commute(q, r, step))
                    self.assertLessEqual(plain.walk(q, r), plain.walk(q, step))
                    if n == 1 or one == NOTHING:
                        self.assertLessEqual(plain.walk(q, r), plain.walk(q, core))

    def test_least_walk_among_short_ones(self):
        """Every way in which the step can be shifted along its own line is tried, with all maps of both sorts."""
        for q, most in ASKED:
            draw = samples.drawer(q, "shifts")
            for core in cores(q, draw, most, 4):
                turned = letters.rounds(q, core) + (plain.NOTHING,)
                found = None
                for many in range(1, len(core[1])):
                    maps = [(-1, (), (), m) for m in plain.maps_of_both(q)]
                    if any(plain.seen(q, turned[many], m) == core for m in maps):
                        found = many
                        break
                right = 2 * (len(core[1]) if found is None else found)
                self.assertEqual(plain.walk(q, commuters.least_commuter(q, core)), right)

    def test_search_over_2(self):
        """All steps with small degrees that commute are made from the least commuter and the resting ones."""
        draw = samples.drawer("search")
        searched = ((), (2,), (3,), (4,), (2, 2), (2, 2, 2), (2, 3))
        every = [step for degrees in searched for step in listing(2, degrees)]
        for step in small_growing_steps(draw):
            resting, r = commuters.resting_commuters(2, step), commuters.least_commuter(2, step)
            found = [one for one in every if commute(2, one, step)]
            still = [one for one in found if plain.walk(2, one) == 0]
            self.assertEqual(sorted(still), [one for one in resting if steps.degrees_of(2, one) in searched])
            for one in found:
                if plain.walk(2, one) > 0:
                    self.assertLessEqual(plain.walk(2, r), plain.walk(2, one))
                    self.assertTrue(self.made(2, r, resting, one))


class Roots(unittest.TestCase):
    def check_roots(self, q, step, n):
        found = commuters.roots_of(q, step, n)
        self.assertIs(type(found), tuple)
        self.assertEqual(list(found), sorted(set(found)))
        for root in found:
            self.assertTrue(reference.is_step(q, root))
            self.assertEqual(steps.repeat(q, root, n), step)
            self.assertTrue(commute(q, root, step))
        return found

    def test_roots_of_repeats(self):
        for q, most in ASKED:
            draw = samples.drawer(q, "roots")
            for root in growing(q, draw, most // 2, 6):
                for n in range(1, 7):
                    if n * len(root[1]) <= most:
                        self.assertIn(root, self.check_roots(q, steps.repeat(q, root, n), n))

    def test_all_from_one(self):
        """The roots are those products of one of them and a resting commuter whose repeat is right."""
        for q, most in ASKED:
            draw = samples.drawer(q, "from one")
            for root in growing(q, draw, most // 2, 6):
                n = draw.choice([n for n in range(1, 7) if n * len(root[1]) <= most])
                step = steps.repeat(q, root, n)
                tries = [steps.product(q, root, one) for one in commuters.resting_commuters(q, step)]
                right = sorted(one for one in tries if steps.repeat(q, one, n) == step)
                self.assertEqual(commuters.roots_of(q, step, n), tuple(right))

    def test_first_roots_and_steps_with_none(self):
        for q, most in ASKED:
            draw = samples.drawer(q, "none")
            for step in growing(q, draw, most, 6):
                self.assertEqual(commuters.roots_of(q, step, 1), (step,))
                for n in range(2, 7):
                    found = self.check_roots(q, step, n)
                    if plain.walk(q, step) % (2 * n) != 0:
                        self.assertEqual(found, ())
            core = samples.core(q, draw, (2, 3))
            self.assertEqual([commuters.roots_of(q, core, n) for n in (2, 3, 4, 5, 6)], [()] * 5)

    def test_search_over_2(self):
        """Steps whose degree divides that of the step, with any bends and turns, are tried."""
        for step in small_growing_steps(samples.drawer("roots search")):
            degree = 1
            for part in steps.degrees_of(2, step):
                degree *= part
            if degree > 16:
                continue
            parts = [part for part in range(2, degree + 1) if degree % part == 0]
            every = [one for part in parts for degrees in tuples_of(part) for one in listing(2, degrees)]
            for n in (2, 3, 4) if degree > 8 else (1, 2, 3, 4, 5, 6):
                right = [one for one in every if self.is_root(2, one, step, n)]
                self.assertEqual(commuters.roots_of(2, step, n), tuple(sorted(right)))

    def is_root(self, q, one, step, n):
        # A root commutes with the step; this is looked at first, as it is told sooner.
        return commute(q, one, step) and steps.repeat(q, one, n) == step

    def test_search_over_3(self):
        draw = samples.drawer("roots over 3")
        for _ in range(3):
            core = samples.core(3, draw, (2,))
            step = plain.seen(3, steps.product(3, core, core), samples.straight_step(3, draw))
            right = [one for one in listing(3, (2,)) if self.is_root(3, one, step, 2)]
            self.assertEqual(commuters.roots_of(3, step, 2), tuple(right))
            self.assertGreater(len(right), 0)

    def test_search_among_last_maps(self):
        """Roots of a short step begin as it does: all last maps are tried [8.5]."""
        for q, degrees in ((3, (2,)), (3, (3, 2)), (4, (2,)), (4, (4,)), (5, (2,)), (5, (5,))):
            draw = samples.drawer(q, degrees, "last maps")
            root = samples.core(q, draw, degrees)
            if q == 4:
                root = (-1, ((0,) * degrees[0] + (1,),), (), SWAP)
            step = steps.repeat(q, root, 2)
            right = [(*root[:3], last) for last in straight_maps(q) if steps.repeat(q, (*root[:3], last), 2) == step]
            self.assertEqual(commuters.roots_of(q, step, 2), tuple(right))
            self.assertIn(root, right)

    def test_several_roots(self):
        """A resting commuter of order 2 that commutes with the root gives another root."""
        root = (-1, ((0, 0, 1, 0, 1),), (), SWAP)
        other = steps.product(2, root, (-1, (), (), (1, 0, 1, 0, 1, 1)))
        found = commuters.roots_of(2, steps.product(2, root, root), 2)
        self.assertEqual(found, tuple(sorted((root, other))))


class Refused(unittest.TestCase):
    def test_what_is_no_step(self):
        for q, _ in ASKED:
            draw = samples.drawer(q, "bad steps")
            good = samples.core(q, draw, (2,))
            for bad in samples.odd_values() + samples.spoilt(good, draw, 60) + [(0, (), (), SAME)]:
                if reference.is_step(q, bad):
                    continue
                for call in self.calls(q, bad):
                    with self.assertRaises(BadStep) as caught:
                        call()
                    self.assertIs(caught.exception.thing, bad)

    def test_what_rests(self):
        for q, _ in ASKED:
            for step in resting_steps(q, samples.drawer(q, "rests")):
                self.assertTrue(kinds.is_resting(q, step))
                for call in self.calls(q, step):
                    with self.assertRaises(NotGrowing) as caught:
                        call()
                    self.assertIs(caught.exception.thing, step)

    def calls(self, q, step):
        return (
            lambda: commuters.resting_commuters(q, step), lambda: commuters.least_commuter(q, step),
            lambda: commuters.roots_of(q, step, 1), lambda: commuters.roots_of(q, step, 5),
        )


class Counted(unittest.TestCase):
    def test_listing_is_whole(self):
        """The searches above go over as many steps as there are."""
        for degrees in ((2,), (2, 2), (4,), (2, 2, 2)):
            self.assertEqual(len(listing(2, degrees)), counting.many_steps(2, degrees))


if __name__ == "__main__":
    unittest.main()
