"""Part 9, [9.1] and [9.2]: families, words, finite and endless families, common places, families within others."""

import unittest

from bentplane import families, steps, tree
from bentplane.errors import BadFamily, BadWord, NotFinite
from bentplane.places import depth, step_of_place
from tests import listing, plain, reference, samples
from tests.plain import NOTHING, ROOT, SAME, SWAP
from tests.reference import FIELDS

BEND = (0, 0, 1)
BENT = (-1, (BEND,), (), SAME)
TURNED = (-1, (), (), SWAP)


def any_family(q, draw, many):
    """So many steps with 0 to 6 bends, drawn from all of them."""
    return tuple(samples.step(q, draw, samples.some_degrees(draw, draw.randrange(0, 7))) for _ in range(many))


def endless_families(q, draw):
    """Triples (family, i, j): the least i that grows and j = 0, or the least pair whose product grows."""
    found = []
    for many in (1, 2, 3, 4):
        at = draw.randrange(many)
        rests = [samples.resting_step(q, draw, 1) for _ in range(many)]
        grows = plain.seen_back(q, samples.core(q, draw, (2, 3)), samples.step(q, draw, (2,)))
        found.append((tuple(rests[:at] + [grows] * (many - at)), at + 1, 0))
    change = samples.step(q, draw, (3, 2))
    swap, bent = plain.seen_back(q, TURNED, change), plain.seen_back(q, BENT, change)
    found += [((swap, bent), 1, 2), ((bent, swap), 1, 2), ((swap, swap, bent), 1, 3), ((NOTHING, bent, swap), 2, 3),
              ((bent, NOTHING, bent, swap), 1, 4), ((NOTHING, swap, NOTHING, bent), 2, 4)]
    return found


def right_numbers(q, family):
    """What judge_finite tells of an endless family, by walks of all steps and all products; None for a finite one."""
    many = len(family)
    for i in range(many):
        if plain.walk(q, family[i]):
            return (i + 1,)
    for i in range(many):
        for j in range(i + 1, many):
            if plain.walk(q, steps.product(q, family[i], family[j])):
                return (i + 1, j + 1)
    return None


class Families(unittest.TestCase):
    def test_sizes(self):
        for q in FIELDS:
            draw = samples.drawer(q, "sizes")
            for many in range(7):
                self.assertIs(families.is_family(q, any_family(q, draw, many)), 1 <= many <= 4)

    def test_any_value(self):
        for q in FIELDS:
            draw = samples.drawer(q, "family")
            family = any_family(q, draw, 3)
            things = samples.odd_values() + samples.spoilt(family, draw, 200) + [family[0], list(family), family * 2]
            for thing in things:
                right = type(thing) is tuple and 1 <= len(thing) <= 4 and all(reference.is_step(q, s) for s in thing)
                self.assertIs(families.is_family(q, thing), right, thing)

    def test_steps_over_another_field(self):
        for q in FIELDS:
            for number in (q - 1, q, q + 1):
                family = (NOTHING, (-1, (), (), (1, number, 0, 0, 1, 0)))
                self.assertIs(families.is_family(q, family), number < q)

    def test_refused_families(self):
        for q in FIELDS:
            draw = samples.drawer(q, "refused")
            good = any_family(q, draw, 2)
            bad = [(-1, (), (), (0,) * 6), None, True, 5, [], "step", (), list(NOTHING), (-1, (), (), SAME, ())]
            for thing in samples.odd_values():
                if type(thing) is not tuple or not 1 <= len(thing) <= 4:
                    self.check_refused(q, thing, -1)
            for thing in ((), good * 3, good + good + (5,), [*good], {}, None, (NOTHING,) * 5):
                self.check_refused(q, thing, -1)
            for thing in bad:
                self.check_refused(q, (thing,), 0)
                self.check_refused(q, (good[0], thing), 1)
                self.check_refused(q, (*good, thing, thing), 2)
                self.check_refused(q, (*good, NOTHING, thing), 3)
                self.check_refused(q, (good[0], thing, NOTHING, None), 1)

    def check_refused(self, q, family, place):
        good, other = (NOTHING,), (TURNED, BENT)
        calls = (
            lambda: families.word_step(q, family, ()), lambda: families.word_step(q, family, None),
            lambda: families.common_place(q, family), lambda: families.is_finite(q, family),
            lambda: families.judge_finite(q, family), lambda: families.finite_holds(q, family, None),
            lambda: families.is_within(q, family, good), lambda: families.is_within(q, good, family),
            lambda: families.is_within(q, other, family), lambda: families.is_within(q, family, other),
            lambda: families.is_within(q, family, ()) if place != -1 else families.is_within(q, family, (None,)),
        )
        for call in calls:
            with self.assertRaises(BadFamily) as caught:
                call()
            self.assertEqual([caught.exception.place, type(caught.exception.place)], [place, int])


class Words(unittest.TestCase):
    def test_product_of_letters(self):
        for q in FIELDS:
            draw = samples.drawer(q, "words")
            for many in (1, 2, 3, 4):
                family = tuple(samples.step(q, draw, samples.some_degrees(draw, draw.randrange(3))) for _ in range(many))
                for length in range(13):
                    word = tuple(draw.choice((-1, 1)) * draw.randrange(1, many + 1) for _ in range(length))
                    found = families.word_step(q, family, word)
                    self.assertEqual(found, listing.letter_by_letter(q, family, word))
                    self.check_points(q, draw, family, word, found)

    def check_points(self, q, draw, family, word, found):
        point = (draw.randrange(q), draw.randrange(q))
        right = point
        for letter in word:
            step = family[abs(letter) - 1]
            right = steps.point_after(q, step if letter > 0 else steps.undoing(q, step), right)
        self.assertEqual(steps.point_after(q, found, point), right)

    def test_long_steps(self):
        for q in FIELDS:
            draw = samples.drawer(q, "long")
            family = tuple(samples.step(q, draw, samples.some_degrees(draw, 6)) for _ in range(4))
            for length in (1, 5, 12):
                word = samples.word(draw, 4, length)
                self.assertEqual(families.word_step(q, family, word), listing.letter_by_letter(q, family, word))

    def test_letters_beside_their_undoings(self):
        for q in FIELDS:
            draw = samples.drawer(q, "beside")
            family = any_family(q, draw, 3)
            self.assertEqual(families.word_step(q, family, ()), NOTHING)
            for word in ((1, -1), (-2, 2), (1, 2, -2, -1), (3, 3, -3, -3), (1, 2, 3, -3, -2, -1)):
                self.assertEqual(families.word_step(q, family, word), NOTHING)
            self.assertEqual(families.word_step(q, family, (1, -1, 2)), family[1])
            self.assertEqual(families.word_step(q, family, (2, 3, -3)), family[1])
            self.assertEqual(families.word_step(q, family, (-3,)), steps.undoing(q, family[2]))

    def test_read_backwards(self):
        for q in FIELDS:
            draw = samples.drawer(q, "backwards")
            family = any_family(q, draw, 2)
            for length in (1, 4, 9):
                word = samples.word(draw, 2, length)
                back = tuple(-letter for letter in reversed(word))
                self.assertEqual(
                    families.word_step(q, family, back), steps.undoing(q, families.word_step(q, family, word)))

    def test_refused_words(self):
        for q in (2, 9, 16):
            draw = samples.drawer(q, "bad words")
            family = any_family(q, draw, 2)
            for thing in samples.odd_values() + [[1, 2], None, "12", {1: 2}]:
                if type(thing) is not tuple:
                    self.check_refused(q, family, thing, -1)
            for bad in (0, 3, -3, 10 ** 39, True, False, None, "1", (1,), [1], {}):
                self.check_refused(q, family, (bad,), 0)
                self.check_refused(q, family, (1, -2, bad, 2), 2)
                self.check_refused(q, family, (1, bad, bad), 1)
                self.check_refused(q, family, (2, 1, bad, None), 2)

    def check_refused(self, q, family, word, place):
        with self.assertRaises(BadWord) as caught:
            families.word_step(q, family, word)
        self.assertEqual([caught.exception.place, type(caught.exception.place)], [place, int])


class Finite(unittest.TestCase):
    def test_families_of_one_sort_behind_a_change(self):
        for q in FIELDS:
            draw = samples.drawer(q, "finite")
            for many in (1, 2, 3, 4):
                for depth in (0, 1, 2, 3):
                    family, sort, change = samples.finite_family(q, draw, many, depth)
                    self.assertIs(families.finite_holds(q, family, ("finite", change, sort)), True)
                    self.check_finite(q, draw, family)

    def check_finite(self, q, draw, family):
        self.assertIs(families.is_finite(q, family), True)
        self.assertIsNone(right_numbers(q, family))
        place = families.common_place(q, family)
        self.assertTrue(plain.is_place(q, place))
        found = families.judge_finite(q, family)
        self.assertEqual(found, ("finite", step_of_place(q, place), place[0]))
        self.assertEqual(type(found), tuple)
        self.check_seen(q, family, found)
        self.assertIs(families.finite_holds(q, family, found), True)
        for step in family:
            self.assertTrue(tree.is_kept(q, step, place))
        if place != ROOT:
            ahead = plain.ahead(place)
            self.assertFalse(all(tree.is_kept(q, step, ahead) for step in family))
        for i in range(1, len(family) + 1):
            self.assertIs(families.finite_holds(q, family, ("endless", (i,))), False)
            for j in range(1, len(family) + 1):
                self.assertIs(families.finite_holds(q, family, ("endless", (i, j))), False)
        self.check_other_changes(q, draw, family, found)

    def check_seen(self, q, family, found):
        for step in family:
            seen = plain.seen(q, step, found[1])
            self.assertTrue(seen[1] == () if found[2] == "straight" else plain.is_bent_map(seen))

    def check_other_changes(self, q, draw, family, found):
        changes = [steps.product(q, found[1], samples.straight_step(q, draw)) for _ in range(2)]
        changes += [steps.product(q, found[1], samples.bent_step(q, draw)) for _ in range(2)]
        changes += [NOTHING, family[0], samples.step(q, draw, (2, 2))]
        for change in changes:
            seen = [plain.seen(q, step, change) for step in family]
            straight, bent = all(s[1] == () for s in seen), all(plain.is_bent_map(s) for s in seen)
            self.assertIs(families.finite_holds(q, family, ("finite", change, "straight")), straight)
            self.assertIs(families.finite_holds(q, family, ("finite", change, "bent")), bent)

    def test_nearest_of_all_kept_places(self):
        """The common place against the places that are kept, listed from the root on."""
        for q in (2, 3):
            draw = samples.drawer(q, "nearest")
            for depth_of_change in (0, 1, 1, 1, 2, 2):
                family = samples.finite_family(q, draw, 2, depth_of_change)[0]
                place = families.common_place(q, family)
                moved_way = plain.way(ROOT, place)
                kept = [all(tree.is_kept(q, step, part) for step in family) for part in moved_way]
                self.assertEqual(kept, [False] * (len(moved_way) - 1) + [True])

    def test_known_places(self):
        for q in FIELDS:
            self.assertEqual(families.common_place(q, (NOTHING,)), ROOT)
            self.assertEqual(families.common_place(q, (TURNED, NOTHING)), ROOT)
            self.assertEqual(families.common_place(q, (BENT,)), ("bent", -1, (), ()))
            self.assertEqual(families.common_place(q, (NOTHING, BENT, (-1, (), (), SAME))), ("bent", -1, (), ()))
            seen = plain.seen(q, BENT, TURNED)
            self.assertEqual(families.common_place(q, (seen,)), ("bent", 0, (), ()))
            self.assertIsNone(families.common_place(q, (seen, BENT)))
            self.assertIsNone(families.common_place(q, (TURNED, BENT)))
            behind = plain.seen_back(q, TURNED, BENT)
            self.assertEqual(families.common_place(q, (behind,)), ("straight", -1, (BEND,), ()))
            self.assertEqual(depth(q, families.common_place(q, (behind, BENT)) or ROOT), 0)

    def test_least_numbers_of_endless_families(self):
        for q in FIELDS:
            draw = samples.drawer(q, "endless")
            for family, i, j in endless_families(q, draw):
                right = ("endless", (i, j) if j else (i,))
                self.assertEqual(families.judge_finite(q, family), right)
                self.check_endless(q, family)

    def test_drawn_families(self):
        for q in FIELDS:
            draw = samples.drawer(q, "drawn")
            for many in (1, 2, 3, 4):
                self.check_any(q, draw, any_family(q, draw, many))
                self.check_any(q, draw, tuple(samples.resting_step(q, draw, draw.randrange(2)) for _ in range(many)))
                self.check_any(q, draw, tuple(samples.resting_step(q, draw, 0) for _ in range(many)))

    def check_any(self, q, draw, family):
        if right_numbers(q, family) is None:
            self.check_finite(q, draw, family)
        else:
            self.check_endless(q, family)

    def check_endless(self, q, family):
        self.assertIs(families.is_finite(q, family), False)
        self.assertIsNone(families.common_place(q, family))
        found = families.judge_finite(q, family)
        self.assertEqual(found, ("endless", right_numbers(q, family)))
        self.assertEqual([type(found), type(found[1])], [tuple, tuple])
        many = len(family)
        for i in range(-1, many + 2):
            right = 1 <= i <= many and plain.walk(q, family[i - 1]) > 0
            self.assertIs(families.finite_holds(q, family, ("endless", (i,))), right)
            for j in range(-1, many + 2):
                right = 1 <= i < j <= many and plain.walk(q, steps.product(q, family[i - 1], family[j - 1])) > 0
                self.assertIs(families.finite_holds(q, family, ("endless", (i, j))), right)
        for sort in ("straight", "bent"):
            for change in (NOTHING, family[0], samples.step(q, samples.drawer(q), (2, 3))):
                self.assertIs(families.finite_holds(q, family, ("finite", change, sort)), False)

    def test_certificates_of_any_value(self):
        for q in FIELDS:
            draw = samples.drawer(q, "any value")
            finite, sort, change = samples.finite_family(q, draw, 2, 1)
            for family in (finite, (TURNED, BENT), (samples.core(q, draw, (2,)), NOTHING)):
                found = families.judge_finite(q, family)
                things = samples.odd_values() + samples.spoilt(found, draw, 80) + [list(found), found[::-1], found * 2]
                things += [found[:1], (*found, None), ("finite", change), ("finite", change, None), ("endless",)]
                things += [("endless", ()), ("endless", [1, 2]), ("endless", (True,)), ("endless", (True, 2)), ("endless", 1)]
                things += [("endless", (1, 2, 2)), ("endless", ((1,),)), ("finite", list(change), sort), ({}, (1,))]
                things += [("endless", (2, 1)), ("endless", (1, 1)), ("finite", NOTHING, ["bent"]), ("finite", None, "bent")]
                for thing in things:
                    self.assertIs(families.finite_holds(q, family, thing), self.plainly(q, family, thing), thing)

    def plainly(self, q, family, thing):
        if type(thing) is not tuple or len(thing) not in (2, 3) or type(thing[0]) is not str:
            return False
        if thing[0] == "endless" and len(thing) == 2 and type(thing[1]) is tuple and len(thing[1]) in (1, 2):
            if not all(type(k) is int and 1 <= k <= len(family) for k in thing[1]):
                return False
            chosen = [family[k - 1] for k in thing[1]]
            if len(chosen) == 1:
                return plain.walk(q, chosen[0]) > 0
            return thing[1][0] < thing[1][1] and plain.walk(q, steps.product(q, *chosen)) > 0
        if thing[0] == "finite" and len(thing) == 3 and reference.is_step(q, thing[1]) and type(thing[2]) is str:
            seen = [plain.seen(q, step, thing[1]) for step in family]
            if thing[2] == "straight":
                return all(step[1] == () for step in seen)
            return thing[2] == "bent" and all(plain.is_bent_map(step) for step in seen)
        return False

    def test_the_same_behind_a_change_and_in_another_order(self):
        for q in FIELDS:
            draw = samples.drawer(q, "same")
            for family in (samples.finite_family(q, draw, 3, 1)[0], endless_families(q, draw)[4][0]):
                right = families.is_finite(q, family)
                change = samples.step(q, draw, (2,))
                self.assertIs(families.is_finite(q, tuple(plain.seen(q, s, change) for s in family)), right)
                self.assertIs(families.is_finite(q, family[::-1]), right)
                self.assertIs(families.is_finite(q, tuple(steps.undoing(q, s) for s in family)), right)
                self.assertIs(families.is_finite(q, family + family[:1]), right)
                self.assertEqual(families.common_place(q, family[::-1]), families.common_place(q, family))


class Within(unittest.TestCase):
    def test_few_deeds(self):
        for q in (2, 3, 4, 5):
            draw = samples.drawer(q, "within")
            for trial in range(6):
                change = samples.step(q, draw, samples.some_degrees(draw, trial % 3))
                sort = draw.choice(("straight", "bent"))
                pool = [plain.seen_back(q, s, change) for s in samples.steps_of_sort(q, draw, sort, 4)]
                for one, other in ((pool[:1], pool[1:2]), (pool[:2], pool[2:]), (pool[:1], pool[:2]), (pool[2:3], pool)):
                    self.check_within(q, tuple(one), tuple(other))

    def check_within(self, q, one, other):
        for first, second in ((one, other), (other, one), (one, one)):
            listed = listing.shortest_words(q, second, 160)
            found = families.is_within(q, first, second)
            self.assertIs(type(found), bool)
            if listed is not None:
                self.assertIs(found, all(step in listed for step in first))

    def test_deeds_of_a_family(self):
        for q in FIELDS:
            draw = samples.drawer(q, "deeds within")
            for depth_of_change in (0, 1, 2):
                family = samples.finite_family(q, draw, 3, depth_of_change)[0]
                words = tuple(families.word_step(q, family, samples.word(draw, 3, n)) for n in (2, 5, 7))
                self.assertIs(families.is_within(q, words, family), True)
                same = (family[1], families.word_step(q, family, (1, 2)), families.word_step(q, family, (3, -1)))
                self.assertIs(families.is_within(q, family, same), True)
                self.assertIs(families.is_within(q, (NOTHING,), family), True)

    def test_very_many_deeds(self):
        for q in FIELDS:
            draw = samples.drawer(q, "many within")
            change = samples.step(q, draw, (2, 3))
            root = [a for a in range(1, q) if reference.power(q, a, q - 1) == 1 and order(q, a) == q - 1][0]
            maps = ((root, 0, 0, 0, 1, 0), (1, 1, 0, 0, 1, 0), SWAP, (1, 0, 1, 0, 1, 0))
            whole = tuple(plain.seen_back(q, (-1, (), (), m), change) for m in maps)
            part = tuple(plain.seen_back(q, samples.straight_step(q, draw), change) for _ in range(3))
            self.assertIs(families.is_within(q, part, whole), True)
            self.assertIs(families.is_within(q, whole, whole[:3]), False)
            self.assertIs(families.is_within(q, whole[3:], whole[:3]), False)
            self.assertIs(families.is_within(q, whole, whole[::-1]), True)
            bent = plain.seen_back(q, BENT, change)
            self.assertIs(families.is_within(q, (bent,), whole), False)
            if q > 2:
                even = tuple(plain.seen_back(q, (-1, (), (), m), change) for m in maps[1:])
                self.assertIs(families.is_within(q, whole, even), q == 3)

    def test_families_at_two_places(self):
        for q in FIELDS:
            self.assertIs(families.is_within(q, (BENT,), (TURNED,)), False)
            self.assertIs(families.is_within(q, (TURNED,), (BENT,)), False)
            moved = (1, 0, 1, 0, 1, 0)
            self.assertIs(families.is_within(q, ((-1, (), (), moved),), (TURNED, (-1, (), (), moved))), True)
            self.assertIs(families.is_within(q, (BENT, (-1, (), (), moved)), (BENT,)), False)

    def test_which_error(self):
        for q in FIELDS:
            draw = samples.drawer(q, "errors")
            endless = endless_families(q, draw)
            finite = samples.finite_family(q, draw, 2, 1)[0]
            for at, (family, i, j) in enumerate(endless):
                right = ("endless", (i, j) if j else (i,))
                other = endless[at - 1][0]
                for call in (lambda: families.is_within(q, family, other), lambda: families.is_within(q, family, finite),
                             lambda: families.is_within(q, finite, family), lambda: families.is_within(q, family, family)):
                    with self.assertRaises(NotFinite) as caught:
                        call()
                    self.assertEqual(caught.exception.certificate, right)


def order(q, a):
    n, found = 1, a
    while found != 1:
        n, found = n + 1, reference.times(q, found, a)
    return n


if __name__ == "__main__":
    unittest.main()
