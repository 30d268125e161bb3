"""Part 14: houses, their promises, deeds, undoing and redoing, copies, texts."""

import inspect
import re
import unittest
from copy import deepcopy

from bentplane import families, free, houses, kinds, steps
from bentplane.errors import (
    BadName, BadPromise, BadStep, BadText, Broken, Here, NoName, NothingToRedo, NothingToUndo, PlaneError,
)
from bentplane.houses import House, read_house
from tests import plain, reference, samples
from tests.plain import NOTHING, SAME, SWAP
from tests.reference import FIELDS
from tests.test_texts import told_text

BEND = (0, 0, 1)
BENT = (-1, (BEND,), (), SAME)
TURNED = (-1, (), (), SWAP)
CORE = (-1, (BEND,), (), SWAP)
NAMES = ("a", "b", "c", "abc", "z", "zzzzzzzz")


def state(house):
    """All that a house tells."""
    return (house.q, house.names(), house.promises(), house.text(), tuple(house.step_of(name) for name, _ in house.names()))


def tried(deed, *arguments):
    """What a deed returns, or the error that it raises as a pair of its class and its attributes."""
    try:
        return deed(*arguments)
    except PlaneError as error:
        return (type(error), vars(error))


def holds(q, known, promise):
    """Whether a promise holds, as families, free pairs, walks and == tell."""
    if promise[0] == "finite":
        return families.is_finite(q, tuple(known[name] for name in promise[1]))
    told = [known[name] for name in promise[1:]]
    if promise[0] == "free":
        return free.are_free(q, *told)
    if promise[0] == "unlike":
        return told[0] != told[1]
    return plain.walk(q, told[0]) > 0


def is_right(q, known, promise, certificate):
    """Whether a certificate against a promise is right [14.3]."""
    if promise[0] == "finite":
        family = tuple(known[name] for name in promise[1])
        return certificate[0] == "endless" and families.finite_holds(q, family, certificate)
    told = [known[name] for name in promise[1:]]
    if promise[0] == "free":
        return certificate[0] == "tied" and free.free_holds(q, *told, certificate)
    if promise[0] == "unlike":
        return certificate == ("same", told[0]) and told[0] == told[1]
    return certificate[0] == "rests" and kinds.kind_holds(q, told[0], certificate)


def plain_text(house):
    lines = ["field " + str(house.q)]
    for name, step in house.names():
        lines.append("name " + name + " " + told_text(step))
    for promise in house.promises():
        names = promise[1] if promise[0] == "finite" else promise[1:]
        lines.append("promise " + promise[0] + "".join(" " + name for name in names))
    return "\n".join(lines)


def furnished(q, draw):
    """A house with steps that rest and grow, and promises of all four sorts."""
    house = House(q)
    change = samples.step(q, draw, (2,))
    house.put("grow", samples.core(q, draw, (2,)))
    house.put("b", plain.seen_back(q, samples.straight_step(q, draw), change))
    house.put("a", plain.seen_back(q, TURNED, change))
    house.put("far", plain.seen(q, house.step_of("grow"), samples.step(q, draw, (3,))))
    house.put("none", NOTHING)
    house.put("bent", BENT)
    house.make(("grows", "grow"))
    house.make(("finite", ("a", "b")))
    for promise in (("free", "far", "grow"), ("unlike", "a", "bent"), ("unlike", "a", "none"), ("finite", ("bent", "none"))):
        if holds(q, dict(house.names()), promise):
            house.make(promise)
    return house


def odd_things():
    return samples.odd_values() + [House(2), [House(3)], ("a", House(2))]


class Names(unittest.TestCase):
    def test_new_house(self):
        for q in FIELDS:
            house = House(q)
            self.assertEqual([house.q, house.names(), house.promises(), house.text()], [q, (), (), f"field {q}"])
            self.assertEqual(House(q=q).q, q)

    def test_put(self):
        for q in FIELDS:
            draw = samples.drawer(q, "put")
            house, known = House(q), {}
            for name in draw.sample(NAMES, len(NAMES)):
                known[name] = samples.step(q, draw, samples.some_degrees(draw, draw.randrange(7)))
                self.assertIsNone(house.put(name, known[name]))
                self.assertEqual(house.names(), tuple(sorted(known.items())))
                for other in known:
                    self.assertEqual(house.step_of(other), known[other])
            self.assertEqual(house.text(), plain_text(house))

    def test_errors_of_put_in_their_order(self):
        for q in FIELDS:
            house = House(q)
            house.put("a", CORE)
            before = state(house)
            bad_names = [n for n in odd_things() if not (type(n) is str and re.fullmatch("[a-z]{1,8}", n))]
            bad_names += ["", "A", "a1", "a b", "abcdefghi", "a\n", "\na", " a", "_", "-", ["a"], ("a",), {"a": 1}, b"a"]
            for name in bad_names:
                for step in (CORE, None, BENT):
                    self.assertEqual(tried(house.put, name, step), (BadName, {"name": name}))
            for step in (CORE, None, BENT, [], 5):
                self.assertEqual(tried(house.put, "a", step), (Here, {"name": "a"}))
            for step in odd_things() + samples.spoilt(CORE, samples.drawer(q), 20):
                if not reference.is_step(q, step):
                    self.assertEqual(tried(house.put, "b", step), (BadStep, {"thing": step}))
            self.assertEqual(state(house), before)
            house.undo()
            self.assertEqual(house.names(), ())
            self.assertEqual(tried(house.undo), (NothingToUndo, {}))

    def test_step_of(self):
        for q in FIELDS:
            house = House(q)
            house.put("a", CORE)
            for name in odd_things() + ["b", "A", "aa", "", ("a",), ["a"], b"a"]:
                self.assertEqual(tried(house.step_of, name), (NoName, {"name": name}))


class Deeds(unittest.TestCase):
    def test_join_turn_change(self):
        for q in FIELDS:
            draw = samples.drawer(q, "deeds")
            house, known = House(q), {}
            for name in ("a", "b", "c"):
                known[name] = samples.step(q, draw, samples.some_degrees(draw, draw.randrange(2)))
                house.put(name, known[name])
            for _ in range(12):
                one, two, three = (draw.choice("abc") for _ in range(3))
                way = draw.randrange(3)
                if way == 0:
                    new = {**known, one: steps.product(q, known[two], known[three])}
                    deed, arguments = house.join, (one, two, three)
                elif way == 1:
                    new = {**known, one: steps.undoing(q, known[one])}
                    deed, arguments = house.turn, (one,)
                else:
                    new = {name: plain.seen(q, step, known[one]) for name, step in known.items()}
                    deed, arguments = house.change, (one,)
                if max(len(step[1]) for step in new.values()) <= 6:
                    self.assertIsNone(deed(*arguments))
                    known = new
                    self.assertEqual(house.names(), tuple(sorted(known.items())))

    def test_names_twice(self):
        for q in FIELDS:
            draw = samples.drawer(q, "twice")
            one, two = samples.step(q, draw, (2,)), samples.step(q, draw, (3,))
            for arguments, right in ((("a", "a", "a"), (one, one)), (("a", "b", "a"), (two, one)), (("a", "a", "b"), (one, two)),
                                     (("a", "b", "b"), (two, two))):
                house = House(q)
                house.put("a", one)
                house.put("b", two)
                house.join(*arguments)
                self.assertEqual(house.step_of("a"), steps.product(q, *right))
                self.assertEqual(house.step_of("b"), two)
            house = House(q)
            house.put("a", one)
            house.put("b", two)
            house.change("a")
            self.assertEqual(house.names(), (("a", one), ("b", plain.seen(q, two, one))))

    def test_no_names(self):
        for q in FIELDS:
            house = House(q)
            house.put("a", CORE)
            house.put("b", BENT)
            before = state(house)
            for bad in odd_things() + ["c", "", "ab", ("a",), ["a"], "A"]:
                right = (NoName, {"name": bad})
                for arguments in ((bad, "a", "b"), ("a", bad, "b"), ("a", "b", bad), (bad, None, 5), ("a", bad, None), ("b", "a", bad)):
                    self.assertEqual(tried(house.join, *arguments), right)
                for deed in (house.turn, house.change, house.leave):
                    self.assertEqual(tried(deed, bad), right)
            self.assertEqual(state(house), before)
            self.assertEqual(tried(House(q).join, "a", "b", "c"), (NoName, {"name": "a"}))

    def test_leave(self):
        for q in FIELDS:
            house = furnished(q, samples.drawer(q, "leave"))
            for name in ("a", "none", "grow", "bent", "b", "far"):
                known = dict(house.names())
                promises = tuple(p for p in house.promises() if name not in (p[1] if p[0] == "finite" else p[1:]))
                self.assertIsNone(house.leave(name))
                del known[name]
                self.assertEqual([house.names(), house.promises()], [tuple(sorted(known.items())), promises])
                self.assertEqual(tried(house.leave, name), (NoName, {"name": name}))
            self.assertEqual(house.text(), f"field {q}")

    def test_a_name_that_is_the_beginning_of_another_one(self):
        house = House(3)
        for name in ("a", "ab", "b"):
            house.put(name, CORE)
        house.make(("grows", "ab"))
        house.make(("grows", "a"))
        house.leave("a")
        self.assertEqual(house.promises(), (("grows", "ab"),))


class Promises(unittest.TestCase):
    def test_holding_and_failing_ones(self):
        for q in FIELDS:
            draw = samples.drawer(q, "promises")
            for _ in range(3):
                house = House(q)
                for name in ("a", "b", "c", "d"):
                    house.put(name, draw.choice((samples.resting_step(q, draw, 0), samples.core(q, draw, (2,)), BENT, TURNED, CORE)))
                tries = [("finite", ("a",)), ("finite", ("a", "b")), ("finite", ("b", "c", "d")), ("finite", ("a", "b", "c", "d")),
                         ("free", "a", "b"), ("free", "b", "d"), ("unlike", "a", "c"), ("unlike", "b", "c"), ("grows", "a"),
                         ("grows", "d"), ("finite", ("c", "d")), ("free", "c", "d")]
                draw.shuffle(tries)
                made = ()
                for promise in tries:
                    known, before = dict(house.names()), state(house)
                    if holds(q, known, promise):
                        self.assertIsNone(house.make(promise))
                        made += (promise,)
                    else:
                        found, told = tried(house.make, promise)
                        self.assertEqual([found, told["promise"], sorted(told)], [Broken, promise, ["certificate", "promise"]])
                        self.assertTrue(is_right(q, known, promise, told["certificate"]))
                        self.assertEqual(state(house), before)
                    self.assertEqual(house.promises(), made)
                self.assertEqual(house.text(), plain_text(house))
                for promise in made:
                    self.assertEqual(tried(house.make, promise), (BadPromise, {"thing": promise}))
                for promise in draw.sample(made, len(made)):
                    self.assertIsNone(house.drop(promise))
                    made = tuple(p for p in made if p != promise)
                    self.assertEqual(house.promises(), made)
                    self.assertEqual(tried(house.drop, promise), (BadPromise, {"thing": promise}))

    def test_wrong_promises(self):
        for q in FIELDS:
            house = furnished(q, samples.drawer(q, "wrong"))
            before = state(house)
            wrong = odd_things() + [
                ("finite", ()), ("finite", ("b", "a")), ("finite", ("a", "a")), ("finite", ("a", "x")), ("finite", ["a", "b"]),
                ("finite", "a"), ("finite", "a", "b"), ("finite", ("a", "b", "bent", "far", "grow")), ("finite",), ("finite", None),
                ("finite", ("a", None)), ("finite", (["a"],)), ("finite", (("a",),)), ("finite", ("a",), ("b",)), ("Finite", ("a",)),
                ("free", "b", "a"), ("free", "a", "a"), ("free", "a"), ("free", "a", "b", "c"), ("free", ("a", "b")), ("free", "a", "x"),
                ("free", None, "a"), ("free", "a", None), ("free", ["a"], "b"), ("free", "", "a"), ["free", "a", "b"],
                ("unlike", "b", "a"), ("unlike", "a", "a"), ("unlike", "a"), ("unlike", "x", "y"), ("unlike", ("a", "b")), ("unlike",),
                ("grows",), ("grows", "x"), ("grows", "a", "b"), ("grows", ("a",)), ("grows", None), ("grows", ["a"]), ["grows", "a"],
                ("rests", "a"), ("kin", "a", "b"), ("", "a"), (None, "a"), ({}, "a"), "grows a", ("grows", "grow"), {"grows": "a"},
            ]
            draw = samples.drawer(q, "spoilt")
            for promise in house.promises():
                wrong += [thing for thing in samples.spoilt(promise, draw, 25)]
            for thing in wrong:
                if not self.is_promise(house, thing) or thing in house.promises():
                    self.assertEqual(tried(house.make, thing), (BadPromise, {"thing": thing}))
                if not (type(thing) is tuple and thing in house.promises()):
                    self.assertEqual(tried(house.drop, thing), (BadPromise, {"thing": thing}))
            self.assertEqual(state(house), before)

    def is_promise(self, house, thing):
        names = [name for name, _ in house.names()]
        if type(thing) is not tuple or len(thing) < 2 or type(thing[0]) is not str:
            return False
        told = thing[1] if thing[0] == "finite" and len(thing) == 2 else thing[1:]
        sizes = {"finite": (1, 2, 3, 4), "free": (2,), "unlike": (2,), "grows": (1,)}.get(thing[0], ())
        if thing[0] == "finite" and len(thing) != 2 or type(told) is not tuple or len(told) not in sizes:
            return False
        return all(type(name) is str and name in names for name in told) and list(told) == sorted(set(told))

    def test_deeds_that_would_break_promises(self):
        many = 0
        for q in FIELDS:
            draw = samples.drawer(q, "break")
            for _ in range(3):
                house = furnished(q, draw)
                names = [name for name, _ in house.names()]
                for _ in range(25):
                    one, two, three = (draw.choice(names) for _ in range(3))
                    known = dict(house.names())
                    new = {**known, one: steps.product(q, known[two], known[three])}
                    deed, arguments = house.join, (one, two, three)
                    if draw.random() < 0.3:
                        new = {**known, one: steps.undoing(q, known[one])}
                        deed, arguments = house.turn, (one,)
                    if max(len(step[1]) for step in new.values()) <= 6:
                        many += self.check_deed(q, house, new, deed, arguments)
        self.assertGreater(many, 50)

    def check_deed(self, q, house, new, deed, arguments):
        before = state(house)
        broken = [promise for promise in house.promises() if not holds(q, new, promise)]
        if not broken:
            self.assertIsNone(deed(*arguments))
            self.assertEqual([dict(house.names()), house.promises()], [new, before[2]])
            return 0
        found, told = tried(deed, *arguments)
        self.assertEqual([found, told["promise"]], [Broken, broken[0]])
        self.assertTrue(is_right(q, new, broken[0], told["certificate"]))
        self.assertEqual(state(house), before)
        return 1

    def test_first_of_several_broken_ones(self):
        for q in FIELDS:
            for order in ((0, 1, 2), (2, 1, 0), (1, 2, 0)):
                promises = [("grows", "a"), ("unlike", "a", "b"), ("free", "a", "c")]
                house = House(q)
                house.put("a", CORE)
                house.put("b", BENT)
                house.put("c", plain.seen(q, CORE, (-1, ((0, 0, 0, 1),), (), SAME)))
                for at in order:
                    house.make(promises[at])
                found, told = tried(house.join, "a", "b", "b")
                right = next(promises[at] for at in order if promises[at][0] != "unlike")
                self.assertEqual([found, told["promise"]], [Broken, right])
                house.put("none", NOTHING)
                house.join("b", "none", "none")
                found, told = tried(house.join, "a", "b", "b")
                self.assertEqual([found, told["promise"]], [Broken, promises[order[0]]])

    def test_change_breaks_nothing(self):
        for q in FIELDS:
            draw = samples.drawer(q, "change")
            for _ in range(4):
                house = furnished(q, draw)
                for name in [name for name, _ in house.names()]:
                    known = dict(house.names())
                    new = {other: plain.seen(q, step, known[name]) for other, step in known.items()}
                    if max(len(step[1]) for step in new.values()) <= 6:
                        promises = house.promises()
                        self.assertIsNone(house.change(name))
                        self.assertEqual([dict(house.names()), house.promises()], [new, promises])
                        self.assertTrue(all(holds(q, new, promise) for promise in promises))


def do_something(house, q, draw):
    """A deed of any sort with arguments that fit, or nearly so; whether it was done."""
    names = [name for name, _ in house.names()] + ["x"]
    way = draw.randrange(9)
    known = dict(house.names())
    one, two, three = (draw.choice(names) for _ in range(3))
    if way == 0:
        deed, arguments = house.put, (draw.choice(NAMES), draw.choice((CORE, BENT, NOTHING, samples.resting_step(q, draw, 0))))
    elif way == 1:
        deed, arguments = house.join, (one, two, three)
        if two in known and three in known and len(known[two][1]) + len(known[three][1]) > 6:
            return False
    elif way == 2:
        deed, arguments = house.turn, (one,)
    elif way == 3:
        deed, arguments = house.change, (one,)
        if one in known and max(len(plain.seen(q, step, known[one])[1]) for step in known.values()) > 6:
            return False
    elif way == 4 and draw.random() < 0.3:
        deed, arguments = house.leave, (one,)
    elif way == 5:
        promise = draw.choice(house.promises()) if house.promises() and draw.random() < 0.5 else ("grows", one)
        deed, arguments = house.drop, (promise,)
    else:
        ones, twos = min(one, two), max(one, two)
        promise = draw.choice((("grows", one), ("finite", (one,)), ("finite", (ones, twos)), ("unlike", ones, twos), ("free", ones, twos)))
        deed, arguments = house.make, (promise,)
    found = tried(deed, *arguments)
    assert found is None or issubclass(found[0], PlaneError)
    return found is None


class Undoing(unittest.TestCase):
    def test_each_sort_of_deed(self):
        for q in FIELDS:
            draw = samples.drawer(q, "each")
            house = furnished(q, draw)
            deeds = [(house.put, "new", TURNED), (house.join, "none", "none", "none"), (house.turn, "grow"), (house.change, "none"),
                     (house.change, "bent"), (house.make, ("grows", "far")), (house.drop, ("grows", "grow")), (house.leave, "b"),
                     (house.turn, "a"), (house.join, "new", "none", "new")]
            told = [state(house)]
            for deed, *arguments in deeds:
                self.assertIsNone(deed(*arguments))
                told.append(state(house))
                self.assertIsNone(house.undo())
                self.assertEqual(state(house), told[-2])
                self.assertIsNone(house.redo())
                self.assertEqual(state(house), told[-1])
            for at in range(len(deeds), 0, -1):
                self.assertEqual(state(house), told[at])
                house.undo()
            for at in range(len(deeds)):
                self.assertEqual(state(house), told[at])
                house.redo()
            self.assertEqual(tried(house.redo), (NothingToRedo, {}))

    def test_drawn_deeds(self):
        for q in FIELDS:
            draw = samples.drawer(q, "undo")
            for _ in range(2):
                house = House(q)
                told, at = [state(house)], 0
                for _ in range(70):
                    way = draw.random()
                    if way < 0.2:
                        found = tried(house.undo)
                        self.assertEqual(found, None if at > 0 else (NothingToUndo, {}))
                        at = max(at - 1, 0)
                    elif way < 0.35:
                        found = tried(house.redo)
                        self.assertEqual(found, None if at + 1 < len(told) else (NothingToRedo, {}))
                        at = min(at + 1, len(told) - 1)
                    elif len(house.names()) < 12 and len(house.promises()) < 12 and do_something(house, q, draw):
                        del told[at + 1:]
                        told.append(state(house))
                        at += 1
                        self.assertEqual(tried(house.redo), (NothingToRedo, {}))
                    self.assertEqual(state(house), told[at])
                    known = dict(house.names())
                    self.assertTrue(all(holds(q, known, promise) for promise in house.promises()))
                for back in range(at, 0, -1):
                    house.undo()
                    self.assertEqual(state(house), told[back - 1])
                self.assertEqual([house.text(), tried(house.undo)], [f"field {q}", (NothingToUndo, {})])
                for forth in range(1, len(told)):
                    house.redo()
                    self.assertEqual(state(house), told[forth])
                self.assertEqual(tried(house.redo), (NothingToRedo, {}))

    def test_refused_deeds_leave_what_can_be_redone(self):
        for q in FIELDS:
            house = House(q)
            house.put("a", CORE)
            house.make(("grows", "a"))
            house.put("b", NOTHING)
            house.undo()
            before = state(house)
            for deed, *arguments in ((house.put, "a", CORE), (house.put, "A", CORE), (house.put, "c", None), (house.turn, "b"),
                                     (house.make, ("grows", "a")), (house.make, ("finite", ("a",))), (house.drop, ("grows", "b")),
                                     (house.leave, "b"), (house.join, "a", "a", "b"), (house.change, "x")):
                self.assertIsNotNone(tried(deed, *arguments))
                self.assertEqual(state(house), before)
            house.redo()
            self.assertEqual(house.step_of("b"), NOTHING)
            self.assertEqual(tried(house.join, "a", "b", "b")[0], Broken)
            house.undo()
            house.undo()
            self.assertEqual([house.promises(), house.names()], [(), (("a", CORE),)])

    def test_deeds_that_change_nothing(self):
        for q in FIELDS:
            house = House(q)
            house.put("a", TURNED)
            house.put("b", NOTHING)
            for deed, *arguments in ((house.turn, "a"), (house.turn, "b"), (house.change, "b"), (house.join, "a", "a", "b"),
                                     (house.change, "a")):
                before = state(house)
                deed(*arguments)
                self.assertEqual(state(house), before)
            for _ in range(5):
                house.undo()
                self.assertEqual(len(house.names()), 2)
            house.undo()
            self.assertEqual(house.names(), (("a", TURNED),))
            for _ in range(6):
                house.redo()
            self.assertEqual(tried(house.redo), (NothingToRedo, {}))
            house.undo()
            house.turn("b")
            self.assertEqual(tried(house.redo), (NothingToRedo, {}))


class Copies(unittest.TestCase):
    def test_one_changes_nothing_in_the_other(self):
        for q in FIELDS:
            draw = samples.drawer(q, "copies")
            house = furnished(q, draw)
            house.turn("grow")
            house.drop(("grows", "grow"))
            house.undo()
            before = state(house)
            other = house.copied()
            self.assertEqual([type(other), state(other), other.q], [House, before, q])
            for one, two in ((house, other), (other, house)):
                two_before = state(two)
                for deed, *arguments in ((one.put, "y", CORE), (one.turn, "a"), (one.change, "none"), (one.leave, "b"),
                                         (one.make, ("grows", "y")), (one.drop, ("grows", "y"))):
                    deed(*arguments)
                    self.assertEqual(state(two), two_before)
                for _ in range(6):
                    one.undo()
                self.assertEqual([state(one), state(two)], [before, two_before])
                self.assertIsNone(tried(one.redo))
                one.undo()
                self.assertEqual(state(two), two_before)

    def test_deeds_to_undo_and_redo(self):
        for q in FIELDS:
            house = House(q)
            house.put("a", CORE)
            house.put("b", BENT)
            house.make(("grows", "a"))
            told = [state(house)]
            for _ in range(2):
                house.undo()
                told.append(state(house))
            for one in (house.copied(), house.copied().copied(), house):
                one.redo()
                self.assertEqual(state(one), told[1])
                one.redo()
                self.assertEqual([state(one), tried(one.redo)], [told[0], (NothingToRedo, {})])
                for right in told[1:]:
                    one.undo()
                    self.assertEqual(state(one), right)
                one.undo()
                self.assertEqual([one.names(), tried(one.undo)], [(), (NothingToUndo, {})])
            house.redo()
            other = house.copied()
            other.put("c", CORE)
            self.assertEqual(tried(other.redo), (NothingToRedo, {}))
            house.redo()
            self.assertEqual(state(house), told[1])

    def test_is_same(self):
        for q in FIELDS:
            draw = samples.drawer(q, "same")
            house = furnished(q, draw)
            self.assertIs(house.is_same(house), True)
            self.assertIs(house.is_same(house.copied()), True)
            self.assertIs(house.is_same(read_house(house.text())), True)
            other = house.copied()
            other.put("y", NOTHING)
            self.assertIs(house.is_same(other), False)
            other.leave("y")
            self.assertIs(house.is_same(other), True)
            other.drop(("grows", "grow"))
            self.assertIs(house.is_same(other), False)
            other.make(("grows", "grow"))
            self.assertIs(house.is_same(other), len(house.promises()) == 1)
            self.assertIs(House(q).is_same(House(q)), True)
            self.assertIs(House(q).is_same(House(5 if q == 2 else 2)), False)
            for thing in odd_things() + [house.text(), house.names(), [house], (house,), House]:
                self.assertIs(house.is_same(thing), False)

    def test_comparing_raises_nothing(self):
        house, other = House(2), House(2)
        for thing in odd_things() + [other, house.text()]:
            self.assertIn(house == thing, (True, False))
            self.assertIn(house != thing, (True, False))
            self.assertIn(thing == house, (True, False))
        self.assertTrue(house == house)

    def test_arguments_and_results_stay(self):
        for q in FIELDS:
            house = furnished(q, samples.drawer(q, "stay"))
            names, promises, text = house.names(), house.promises(), house.text()
            before = deepcopy((names, promises))
            house.turn("a")
            house.leave("bent")
            house.undo()
            self.assertEqual((names, promises), before)
            thing = ["grows", ["a"]]
            tried(house.make, thing)
            self.assertEqual(thing, ["grows", ["a"]])
            self.assertEqual(read_house(text).names(), names)


class Texts(unittest.TestCase):
    def test_there_and_back(self):
        for q in FIELDS:
            draw = samples.drawer(q, "text")
            for house in (House(q), furnished(q, draw), furnished(q, draw)):
                text = house.text()
                self.assertEqual([text, type(text)], [plain_text(house), str])
                found = read_house(text)
                self.assertEqual([type(found), found.q, state(found)], [House, q, state(house)])
                self.assertEqual(tried(found.undo), (NothingToUndo, {}))
                self.assertEqual(tried(found.redo), (NothingToRedo, {}))
                found.put("new", NOTHING)
                found.undo()
                self.assertEqual(found.text(), text)

    def check_refused(self, text, line):
        with self.assertRaises(BadText) as caught:
            read_house(text)
        self.assertEqual([caught.exception.line, type(caught.exception.line)], [line, int], text)

    def test_no_strings(self):
        for thing in odd_things() + [["field 2"], ("field 2",), b"field 2", House(2)]:
            if type(thing) is not str:
                self.check_refused(thing, 0)

    def test_wrong_first_lines(self):
        for text in ("", "\n", "\nfield 2", "field", "field ", "field 6", "field 02", "field 2 ", " field 2", "Field 2", "field  2",
                     "field 2 2", "field -2", "field +2", "field 1", "field 17", "field two", "name a start - last 1 0 0 0 1 0",
                     "field 2\r\n", "field\n2", "F", "a" * 2000, "bend"):
            self.check_refused(text, 1)

    def test_wrong_later_lines(self):
        name, other = "name b start - bend 0 0 1 last 0 1 0 1 0 0", "name c start - last 1 0 0 0 1 0"
        good = ["field 3", name, other, "promise grows b", "promise unlike b c", "promise finite c"]
        read_house("\n".join(good))
        for at, lines in (
            (2, ["field 3", ""]), (2, ["field 3", "", name]), (2, ["field 3", "field 3"]), (3, ["field 3", name, name]),
            (3, ["field 3", other, name]), (3, ["field 3", name, "field 3"]), (2, ["field 3", "promise grows b", name]),
            (3, ["field 3", name, "promise grows c", other]), (5, good[:4] + [other]), (5, good[:4] + ["promise grows b"]),
            (4, good[:3] + ["promise finite b"]), (4, good[:3] + ["promise grows c"]), (4, good[:3] + ["promise free b c"]),
            (4, good[:3] + ["promise unlike c b"]), (4, good[:3] + ["promise unlike b b"]), (4, good[:3] + ["promise finite"]),
            (4, good[:3] + ["promise finite c c"]), (4, good[:3] + ["promise"]), (4, good[:3] + ["promise "]),
            (4, good[:3] + ["promise grows"]), (4, good[:3] + ["promise grows b c"]), (4, good[:3] + ["promise grows  b"]),
            (4, good[:3] + ["promise grows b "]), (4, good[:3] + [" promise grows b"]), (4, good[:3] + ["promise rests c"]),
            (4, good[:3] + ["promise Grows b"]), (4, good[:3] + ["promise grows x"]), (7, good + [""]), (7, good + [name]),
            (7, good + ["promise finite c"]), (7, good + ["promise unlike b c"]), (7, good + ["end"]),
            (2, ["field 3", "name a"]), (2, ["field 3", "name a "]), (2, ["field 3", "name"]), (2, ["field 3", "name  start - last 1 0 0 0 1 0"]),
            (2, ["field 3", "name A start - last 1 0 0 0 1 0"]), (2, ["field 3", "name abcdefghi start - last 1 0 0 0 1 0"]),
            (2, ["field 3", "name a start - last 1 0 0 0 1 3"]), (2, ["field 3", "name a start - last 1 0 0 0 1 0 "]),
            (2, ["field 2", "name a start - last 1 0 0 0 2 0"]), (2, ["field 3", "name a  start - last 1 0 0 0 1 0"]),
            (2, ["field 3", "name a start 0 last 1 0 0 0 1 0", "nonsense"]), (3, ["field 3", name, "", "nonsense"]),
        ):
            self.check_refused("\n".join(lines), at)

    def first_wrong(self, text):
        """The first line at which no text of a house goes on, found by doing line after line as deeds; None if right."""
        lines = text.split("\n")
        fields = {f"field {q}": q for q in FIELDS}
        if lines[0] not in fields:
            return 1
        house = House(fields[lines[0]])
        for at, line in enumerate(lines[1:]):
            if not self.does(house, line):
                return at + 2
        return None

    def does(self, house, line):
        found = re.fullmatch(r"name ([a-z]{1,8}) (start .*)", line)
        names = [name for name, _ in house.names()]
        if found:
            if house.promises() or any(name >= found[1] for name in names):
                return False
            step = self.step_told(found[2])
            if not reference.is_step(house.q, step) or told_text(step) != found[2]:
                return False
            return tried(house.put, found[1], step) is None
        words = line.split(" ")
        if words[0] != "promise" or len(words) < 3:
            return False
        promise = (words[1], tuple(words[2:])) if words[1] == "finite" else tuple(words[1:])
        return tried(house.make, promise) is None

    def step_told(self, text):
        """The tuple that a text of a step tells, right or wrong."""
        found = re.fullmatch(r"start (-|\d+)((?: bend [\d ]+| turn \d+)*) last ((?:\d+ ){5}\d+)", text)
        if not found:
            return None
        bends = tuple(tuple(map(int, part.split())) for part in re.findall(r"bend ([\d ]+)", found[2]))
        turns = tuple(map(int, re.findall(r"turn (\d+)", found[2])))
        return (-1 if found[1] == "-" else int(found[1]), bends, turns, tuple(map(int, found[3].split())))

    def test_changed_texts(self):
        many = {True: 0, False: 0}
        for q in FIELDS:
            draw = samples.drawer(q, "changed")
            house = furnished(q, draw)
            for _ in range(150):
                text = house.text()
                for _ in range(draw.randrange(1, 4)):
                    text = self.changed(text, draw)
                line = self.first_wrong(text)
                if line is None:
                    found = read_house(text)
                    self.assertEqual([found.text(), tried(found.undo)], [text, (NothingToUndo, {})])
                else:
                    self.check_refused(text, line)
                many[line is None] += 1
        self.assertGreater(many[False], 700)
        self.assertGreater(many[True], 50)

    def changed(self, text, draw):
        lines = text.split("\n")
        at, other = draw.randrange(len(lines)), draw.randrange(len(lines))
        way = draw.randrange(9)
        if way == 0:
            lines[at], lines[other] = lines[other], lines[at]
        elif way == 1:
            lines.insert(other, lines[at])
        elif way == 2:
            del lines[at]
        elif way == 3:
            lines.insert(at, draw.choice((
                "", "field 3", "name y start - last 1 0 0 0 1 0", "promise grows grow", "promise finite a b", "promise unlike a b",
                "promise free a b", "promise grows none", "promise unlike none y", "promise finite none", "promise finite bent grow")))
        elif way == 4:
            lines[at] = lines[at][:draw.randrange(len(lines[at]) + 1)]
        elif way == 5:
            return text[:draw.randrange(len(text) + 1)]
        elif way == 6:
            words = lines[at].split(" ")
            place = draw.randrange(len(words))
            words[place] = draw.choice(("0", "1", "2", "-", "01", "a", "b", "grow", "finite", "free", "grows", "unlike", "turn 1"))
            lines[at] = " ".join(words)
        elif way == 7:
            place = draw.randrange(len(text))
            return text[:place] + draw.choice(" \n0129-az") + text[place + draw.randrange(2):]
        else:
            lines.append(draw.choice(("promise unlike a b", "promise unlike bent none", "promise finite none", "promise grows far")))
        return "\n".join(lines)

    def test_texts_cut_behind_each_line(self):
        for q in FIELDS:
            lines = furnished(q, samples.drawer(q, "cut")).text().split("\n")
            for many in range(1, len(lines) + 1):
                part = "\n".join(lines[:many])
                self.assertEqual(read_house(part).text(), part)
                self.check_refused(part + "\n", many + 1)
                self.check_refused(part + "\n\n" + "\n".join(lines[many:]), many + 1)


class Interface(unittest.TestCase):
    METHODS = {
        "__init__": ["q"], "names": [], "step_of": ["name"], "promises": [], "put": ["name", "step"], "join": ["name", "one", "other"],
        "turn": ["name"], "change": ["name"], "leave": ["name"], "make": ["thing"], "drop": ["thing"], "undo": [], "redo": [],
        "copied": [], "text": [], "is_same": ["thing"],
    }

    def test_methods_of_the_class_itself(self):
        self.assertEqual([House.__module__, read_house.__module__], ["bentplane.houses"] * 2)
        for name, parameters in self.METHODS.items():
            self.assertIn(name, vars(House))
            found = inspect.signature(vars(House)[name]).parameters
            self.assertEqual(list(found)[1:], parameters)
            for part in list(found.values())[1:]:
                self.assertEqual([part.kind, part.default], [part.POSITIONAL_OR_KEYWORD, part.empty])

    def test_by_name(self):
        house = House(q=3)
        self.assertIsNone(house.put(step=CORE, name="a"))
        self.assertIsNone(house.put(name="b", step=BENT))
        self.assertEqual(house.step_of(name="a"), CORE)
        self.assertIsNone(house.join(other="b", name="b", one="b"))
        self.assertEqual(house.step_of("b"), steps.product(3, BENT, BENT))
        self.assertIsNone(house.turn(name="b"))
        self.assertIsNone(house.change(name="b"))
        self.assertIsNone(house.make(thing=("grows", "a")))
        self.assertIsNone(house.drop(thing=("grows", "a")))
        self.assertIsNone(house.leave(name="b"))
        self.assertIs(house.is_same(thing=read_house(text=house.text())), True)
        with self.assertRaises(BadName) as caught:
            house.put(name=5, step=None)
        self.assertEqual(vars(caught.exception), {"name": 5})
        self.assertEqual(houses.House(2).q, 2)


if __name__ == "__main__":
    unittest.main()
