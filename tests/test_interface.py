"""The interface: each name in its own file, parameters as written there, and arguments that stay as they are."""

import importlib
import inspect
import unittest
from copy import deepcopy

from bentplane.errors import BadStep
from bentplane.houses import House
from tests import samples
from tests.reference import FIELDS

# What the interface lists, module by module: names, parameters, and arguments to call them with over 3.
BEND, SAME = (0, 0, 1), (1, 0, 0, 0, 1, 0)
F, G = ((0, 1, 1), (2, 0, 2)), ((0, 0, 1), (1, 0, 2))
PAIR = (((0, 1, 1),), ((0, 2, 1), (1, 0, 1)))
ROW = (("bend", BEND), ("straight", (0, 1, 0, 1, 0, 0)))
STEP, OTHER = (-1, (BEND,), (), (0, 1, 0, 1, 0, 0)), (1, ((0, 0, 0, 2),), (), SAME)
LONG, BENT = (-1, (BEND, (0, 0, 0, 1)), (1,), (0, 1, 0, 1, 0, 0)), (-1, (BEND,), (), (1, 0, 1, 0, 1, 0))
PLACE, BESIDE = ("bent", 0, (BEND, BEND), (1, 0)), ("straight", 0, (BEND, BEND), (1,))
FAMILY = (BENT, (-1, (), (), (1, 0, 1, 0, 1, 0)))
FREE = (0, ((0, 0, 0, 0, 1), BEND), (1,), (0, 1, 0, 1, 0, 0))
EXCHANGE = (1, 2, 0, 4, 3, 6, 5, 7, 8)
INTERFACE = {
    "fields": (
        ("is_field", {"thing": 3}), ("characteristic", {"q": 3}), ("is_number", {"q": 3, "thing": 2}),
        ("plus", {"q": 3, "a": 1, "b": 2}), ("minus", {"q": 3, "a": 1, "b": 2}), ("times", {"q": 3, "a": 2, "b": 2}),
        ("opposite", {"q": 3, "a": 1}), ("inverse", {"q": 3, "a": 2}), ("power", {"q": 3, "a": 2, "exponent": 5}),
        ("order_of_number", {"q": 3, "a": 2}),
    ),
    "oneletter": (
        ("is_one_letter", {"q": 3, "thing": (0, 1)}), ("one_plus", {"q": 3, "f": (1, 2), "g": (2, 2)}),
        ("one_times", {"q": 3, "f": (1, 2), "g": (2, 2)}), ("one_value", {"q": 3, "f": (1, 2), "number": 2}),
        ("one_put", {"q": 3, "f": (1, 2), "g": (2, 0, 1)}),
    ),
    "polys": (
        ("is_poly", {"q": 3, "thing": F}), ("poly_plus", {"q": 3, "F": F, "G": G}),
        ("poly_minus", {"q": 3, "F": F, "G": G}), ("poly_times", {"q": 3, "F": F, "G": G}), ("degree", {"F": F}),
        ("highest", {"F": F}), ("value", {"q": 3, "F": F, "x": 1, "y": 2}), ("slope", {"q": 3, "F": F, "letter": "x"}),
        ("put", {"q": 3, "F": F, "pair": PAIR}),
    ),
    "pairs": (
        ("is_pair", {"q": 3, "thing": PAIR}), ("pair_then", {"q": 3, "one": PAIR, "other": (F, G)}),
        ("pair_degree", {"pair": PAIR}), ("determinant", {"q": 3, "pair": PAIR}),
        ("point_by_pair", {"q": 3, "pair": PAIR, "point": (1, 2)}), ("is_straight", {"q": 3, "thing": SAME}),
        ("is_bend", {"q": 3, "thing": BEND}), ("is_row", {"q": 3, "thing": ROW}), ("pair_by_row", {"q": 3, "row": ROW}),
        ("point_by_row", {"q": 3, "row": ROW, "point": (1, 2)}),
    ),
    "peeling": (
        ("lowered_by", {"q": 3, "pair": PAIR}), ("judge_pair", {"q": 3, "pair": PAIR}),
        ("pair_holds", {"q": 3, "pair": PAIR, "thing": ("step", STEP)}), ("is_undoable", {"q": 3, "thing": PAIR}),
        ("undoing_pair", {"q": 3, "pair": PAIR}),
    ),
    "steps": (
        ("is_step", {"q": 3, "thing": STEP}), ("step_of_row", {"q": 3, "row": ROW}), ("nothing", {}),
        ("row_of", {"q": 3, "step": STEP}), ("product", {"q": 3, "one": STEP, "other": OTHER}),
        ("undoing", {"q": 3, "step": STEP}), ("repeat", {"q": 3, "step": STEP, "n": -3}),
        ("point_after", {"q": 3, "step": STEP, "point": (1, 2)}), ("degrees_of", {"q": 3, "step": STEP}),
        ("determinant_of", {"q": 3, "step": STEP}), ("pair_of", {"q": 3, "step": STEP}),
        ("parting", {"q": 3, "one": STEP, "other": OTHER}),
    ),
    "counting": (
        ("many_straight", {"q": 3}), ("many_steps", {"q": 3, "degrees": (2, 5)}),
        ("many_with", {"q": 3, "degrees": (2, 5), "determinant": 1}), ("many_of_degree", {"q": 3, "degree": 12}),
        ("step_number", {"q": 3, "step": LONG}), ("step_at", {"q": 3, "degrees": (2, 3), "number": 77}),
    ),
    "kinds": (
        ("seen", {"q": 3, "step": LONG, "change": BENT}), ("is_short", {"q": 3, "step": LONG}),
        ("short_form", {"q": 3, "step": (1, *LONG[1:])}), ("walk", {"q": 3, "step": LONG}),
        ("is_resting", {"q": 3, "step": LONG}), ("judge_kind", {"q": 3, "step": LONG}),
        ("kind_holds", {"q": 3, "step": BENT, "thing": ("rests", 6)}), ("order", {"q": 3, "step": BENT}),
    ),
    "repeats": (
        ("growth", {"q": 3, "step": LONG}), ("repeat_degree", {"q": 3, "step": LONG, "n": -(10 ** 20)}),
        ("far_repeat", {"q": 3, "step": BENT, "n": 10 ** 20}),
    ),
    "places": (
        ("is_place", {"q": 3, "thing": PLACE}), ("step_of_place", {"q": 3, "place": PLACE}),
        ("place_of", {"q": 3, "step": LONG, "sort": "bent"}), ("ahead", {"q": 3, "place": PLACE}),
        ("depth", {"q": 3, "place": PLACE}), ("are_beside", {"q": 3, "one": PLACE, "other": BESIDE}),
        ("distance", {"q": 3, "one": PLACE, "other": ("bent", -1, (), ())}),
        ("way_between", {"q": 3, "one": PLACE, "other": ("bent", -1, (), ())}),
        ("many_behind", {"q": 3, "place": PLACE, "degree": 5}), ("behind", {"q": 3, "place": PLACE, "degree": 3}),
    ),
    "tree": (
        ("moved", {"q": 3, "step": LONG, "place": PLACE}), ("is_kept", {"q": 3, "step": LONG, "place": PLACE}),
        ("is_on_line", {"q": 3, "step": LONG, "place": PLACE}), ("nearest", {"q": 3, "step": LONG, "place": PLACE}),
        ("line_stretch", {"q": 3, "step": LONG}),
    ),
    "letters": (
        ("next_round", {"q": 3, "step": LONG}), ("rounds", {"q": 3, "step": LONG}), ("maps_of_both", {"q": 3}),
        ("keeping_maps", {"q": 3, "step": LONG}), ("least_form", {"q": 3, "step": LONG}),
        ("judge_kin", {"q": 3, "one": LONG, "other": STEP}),
        ("kin_holds", {"q": 3, "one": LONG, "other": LONG, "thing": ("kin", (-1, (), (), SAME))}),
        ("are_kin", {"q": 3, "one": LONG, "other": STEP}),
    ),
    "commuters": (
        ("resting_commuters", {"q": 3, "step": LONG}), ("least_commuter", {"q": 3, "step": LONG}),
        ("roots_of", {"q": 3, "step": LONG, "n": 2}),
    ),
    "families": (
        ("is_family", {"q": 3, "thing": FAMILY}), ("word_step", {"q": 3, "family": FAMILY, "word": (1, -2, 1)}),
        ("common_place", {"q": 3, "family": FAMILY}), ("is_finite", {"q": 3, "family": FAMILY}),
        ("judge_finite", {"q": 3, "family": (STEP, LONG)}),
        ("finite_holds", {"q": 3, "family": FAMILY, "thing": ("finite", (-1, (), (), SAME), "bent")}),
        ("is_within", {"q": 3, "one": FAMILY[:1], "other": FAMILY}),
    ),
    "sizes": (
        ("many_deeds", {"q": 3, "family": FAMILY}), ("is_deed", {"q": 3, "family": FAMILY, "step": FAMILY[1]}),
        ("deeds", {"q": 3, "family": FAMILY}), ("word_for", {"q": 3, "family": FAMILY, "step": FAMILY[1]}),
        ("by_length", {"q": 3, "family": FAMILY}), ("middle", {"q": 3, "family": FAMILY}),
        ("orders_of", {"q": 3, "family": FAMILY}),
    ),
    "free": (
        ("traded", {"q": 3, "one": LONG, "other": BENT, "trade": "2-1"}), ("is_spread", {"q": 3, "one": LONG, "other": FREE}),
        ("judge_free", {"q": 3, "one": LONG, "other": BENT}),
        ("free_holds", {"q": 3, "one": LONG, "other": BENT, "thing": ("tied", (2,), 6)}),
        ("are_free", {"q": 3, "one": LONG, "other": FREE}),
        ("free_word", {"q": 3, "one": LONG, "other": FREE, "step": FREE}), ("unlike", {"q": 3, "family": (LONG, BENT), "n": 2}),
    ),
    "exchanges": (
        ("is_exchange", {"q": 3, "thing": EXCHANGE}), ("exchange_of", {"q": 3, "step": LONG}),
        ("is_even", {"q": 3, "exchange": EXCHANGE}), ("can_come", {"q": 3, "exchange": EXCHANGE}),
        ("row_for", {"q": 3, "exchange": EXCHANGE}), ("round_lengths", {"q": 3, "exchange": EXCHANGE}),
        ("pair_between", {"q": 3, "exchange": EXCHANGE}), ("point_order", {"q": 3, "step": LONG}),
    ),
    "larger": (
        ("is_above", {"q": 3, "r": 9}), ("number_lifted", {"q": 3, "r": 9, "number": 2}),
        ("step_lifted", {"q": 3, "r": 9, "step": LONG}), ("still_points", {"q": 3, "step": LONG}),
        ("point_after_repeat", {"q": 3, "step": LONG, "point": (1, 0), "n": -(10 ** 29)}),
        ("many_still", {"q": 3, "step": LONG, "n": 10 ** 29}), ("parted_point", {"q": 3, "one": LONG, "other": BENT}),
    ),
    "kept": (
        ("kept_base", {"q": 3, "family": FAMILY, "n": 3}), ("has_kept", {"q": 3, "family": FAMILY, "thing": ((0, 3, 1),)}),
        ("round_sum", {"q": 3, "step": BENT, "P": ((0, 1, 1), (1, 0, 1))}),
        ("round_product", {"q": 3, "step": BENT, "P": ((0, 1, 1), (1, 0, 1))}),
    ),
    "texts": (
        ("step_text", {"q": 3, "step": LONG}), ("read_step", {"q": 3, "text": "start 1 bend 0 0 1 last 1 0 0 0 1 0"}),
    ),
}
# These are asked over small fields alone; and arguments with the number 2 are not right over 2.
SMALL_FIELDS = ("least_form", "judge_kin", "kin_holds", "are_kin", "resting_commuters", "least_commuter", "roots_of")
WITHOUT_TWOS = (
    "counting", "kinds", "repeats", "places", "tree", "letters", "commuters", "families", "sizes", "free", "exchanges", "larger",
    "kept", "texts",
)
# Exchanges belong to one field, and numbers are lifted from few.
IN_THE_OTHER_FIELDS = {
    "is_exchange": lambda q: {"thing": turned(q)}, "is_even": lambda q: {"exchange": turned(q)},
    "can_come": lambda q: {"exchange": turned(q)}, "round_lengths": lambda q: {"exchange": turned(q)},
    "row_for": lambda q: {"exchange": turned(q)} if q < 8 else None,
    "pair_between": lambda q: {"exchange": turned(q)} if q < 6 else None,
    "number_lifted": lambda q: {"r": ABOVE[q], "number": q - 1} if q in ABOVE else None,
    "step_lifted": lambda q: {"r": ABOVE[q]} if q in ABOVE else None,
}
ABOVE = {2: 8, 3: 9, 4: 16}


def turned(q):
    """An exchange that moves three points, or all four over 2."""
    return (1, 2, 3, 0) if q == 2 else (1, 2, 0, *range(3, q * q))


def listed():
    """Each listed function with its module's name and the arguments to try."""
    for module, functions in INTERFACE.items():
        made = importlib.import_module("bentplane." + module)
        for name, arguments in functions:
            yield module, getattr(made, name), arguments


class Interface(unittest.TestCase):
    def test_names_and_parameters(self):
        for module, function, arguments in listed():
            self.assertEqual(function.__module__, "bentplane." + module)
            self.assertEqual(list(inspect.signature(function).parameters), list(arguments))
            for parameter in inspect.signature(function).parameters.values():
                self.assertEqual([parameter.kind, parameter.default], [parameter.POSITIONAL_OR_KEYWORD, parameter.empty])

    def test_by_position_and_by_name(self):
        for _, function, arguments in listed():
            before = deepcopy(arguments)
            found = function(*arguments.values())
            self.assertEqual(found, function(**arguments))
            self.assertEqual(found, function(**dict(reversed(list(arguments.items())))))
            self.assertEqual(arguments, before)
            self.assertIs(type(found), type(function(**arguments)))

    def test_any_value_stays_as_it_is(self):
        things = samples.odd_values() + [[F, G], [("bend", [0, 0, 1])], [-1, [BEND], [], list(SAME)]]
        for _, function, arguments in listed():
            if "thing" not in arguments:
                continue
            for thing in things:
                before = deepcopy(thing)
                found = function(**{**arguments, "thing": thing})
                self.assertIn(found, (True, False))
                self.assertIs(type(found), bool)
                self.assertEqual(repr(thing), repr(before))

    def test_houses_in_any_place(self):
        """Houses are among any values, alone and within other ones."""
        house = House(3)
        house.put("a", STEP)
        things = [house, (house,), [house], {"a": house}, ("step", house), ("kin", house), ("free", house), ("tied", house, 1)]
        things += [("free", (house,)), ("tied", (house,), 1), ("tied", (1,), house), ("finite", house, "bent"), ("endless", house)]
        things += [("endless", (house,)), ("finite", STEP, house), (house, (BEND,), (), SAME), (-1, house, (), SAME), (house,) * 9]
        for _, function, arguments in listed():
            if "thing" in arguments:
                for thing in things:
                    self.assertIs(function(**{**arguments, "thing": thing}), False)
            for name in ("step", "one", "other"):
                if arguments.get(name) in (STEP, LONG, BENT, OTHER, FREE):
                    for thing in things:
                        with self.assertRaises(BadStep) as caught:
                            function(**{**arguments, name: thing})
                        self.assertIs(caught.exception.thing, thing)
        self.assertEqual(house.names(), (("a", STEP),))

    def test_one_question_over_several_fields(self):
        """Asked over one field, then over the others, and then over all of them again, from the last one on."""
        for module, function, arguments in listed():
            if "q" not in arguments:
                continue
            fields = [q for q in FIELDS if q > 2 or module in WITHOUT_TWOS]
            fields = [q for q in fields if q <= 5 or function.__name__ not in SMALL_FIELDS]
            other = IN_THE_OTHER_FIELDS.get(function.__name__, lambda q: {})
            fields = [q for q in fields if other(q) is not None]
            found = {q: function(**{**arguments, "q": q, **other(q)}) for q in fields}
            for q in reversed(fields):
                self.assertEqual(function(**{**arguments, "q": q, **other(q)}), found[q])

    def test_results_are_of_told_kinds(self):
        for _, function, arguments in listed():
            self.check_kinds(function(**arguments))

    def check_kinds(self, found):
        if type(found) is tuple:
            for part in found:
                self.check_kinds(part)
        else:
            self.assertIn(type(found), (int, str, bool, type(None)))


if __name__ == "__main__":
    unittest.main()
