"""Families of steps, their words, and whether they make finitely many deeds ([9.1], [9.2])."""

from bentplane.chains import chain_of
from bentplane.errors import BadFamily, BadWord, NotFinite
from bentplane.fields import is_integer
from bentplane.kinds import seen_by, step_walk
from bentplane.leastrows import row_by_step, step_by_row, step_then, step_undone
from bentplane.onesort import maps_of_sort
from bentplane.places import BENT, ROOT, STRAIGHT, place_depth, place_step
from bentplane.steps import is_step
from bentplane.tree import nearest_place

MOST_STEPS = 4
FINITE = "finite"
ENDLESS = "endless"


def can_be_family(thing):
    """Whether any value is a tuple with as many items as a family may have."""
    return isinstance(thing, tuple) and 1 <= len(thing) <= MOST_STEPS


def is_family(q, thing):
    """Whether any value is a family."""
    return can_be_family(thing) and all([is_step(q, part) for part in thing])


def look_at_family(q, family):
    """Raise BadFamily for any value that is no family."""
    if not can_be_family(family):
        raise BadFamily(-1)
    for place, thing in enumerate(family):
        if not is_step(q, thing):
            raise BadFamily(place)


def is_letter(family, thing):
    """Whether any value is a letter of the words for a family."""
    return is_integer(thing) and 1 <= abs(thing) <= len(family)


def step_of_letter(q, family, letter):
    """The step, or the undone step, for which a letter stands."""
    step = family[abs(letter) - 1]
    return step if letter > 0 else step_undone(q, step)


def step_by_word(q, family, word):
    """The step that a word makes."""
    rows = {letter: row_by_step(step_of_letter(q, family, letter)) for letter in word}
    return step_by_row(q, [piece for letter in word for piece in rows[letter]])


def word_step(q, family, word):
    """The step that a word for a family makes."""
    look_at_family(q, family)
    if not isinstance(word, tuple):
        raise BadWord(-1)
    for place, thing in enumerate(word):
        if not is_letter(family, thing):
            raise BadWord(place)
    return step_by_word(q, family, word)


def grows_at(q, family, numbers):
    """Whether a step, or the product of two steps, with these numbers in a family grows."""
    found = family[numbers[0] - 1]
    for number in numbers[1:]:
        found = step_then(q, found, family[number - 1])
    return step_walk(q, found) > 0


def endless_numbers(q, family):
    """The number of the first step that grows, or the numbers of the first two whose product grows; or None."""
    many = len(family)
    ones = [(i,) for i in range(1, many + 1)]
    twos = [(i, j) for i in range(1, many + 1) for j in range(i + 1, many + 1)]
    for numbers in ones + twos:
        if grows_at(q, family, numbers):
            return numbers
    return None


def place_in_common(q, family):
    """The common place of a family with finitely many deeds."""
    # The way from the root to the common place leads, for each step, by the nearest place that
    # the step keeps, and goes on in places that it keeps: the last one of these is kept by all.
    return max([nearest_place(q, step, ROOT) for step in family], key=place_depth)


def judge_family(q, family):
    """A certificate that a family has finitely many deeds, or endlessly many."""
    numbers = endless_numbers(q, family)
    if numbers is not None:
        return (ENDLESS, numbers)
    place = place_in_common(q, family)
    return (FINITE, place_step(place), place[0])


def common_place(q, family):
    """The place nearest to the root of those that all steps of a family keep; None if the deeds are endless."""
    look_at_family(q, family)
    return place_in_common(q, family) if endless_numbers(q, family) is None else None


def is_finite(q, family):
    """Whether a family has finitely many deeds."""
    look_at_family(q, family)
    return endless_numbers(q, family) is None


def judge_finite(q, family):
    """A certificate that a family has finitely many deeds, or endlessly many."""
    look_at_family(q, family)
    return judge_family(q, family)


def shows_finite(q, family, change, sort):
    """Whether all steps of a family, seen by any value as change, are maps of any value as sort."""
    if not is_step(q, change) or (sort != STRAIGHT and sort != BENT):
        return False
    maps = maps_of_sort(q, sort)
    return all([maps.map_of_step(seen_by(q, step, change)) is not None for step in family])


def shows_endless(q, family, numbers):
    """Whether any value tells a step of a family that grows, or two of them whose product grows."""
    if not isinstance(numbers, tuple) or not 1 <= len(numbers) <= 2:
        return False
    if not all([is_integer(number) and 1 <= number <= len(family) for number in numbers]):
        return False
    return (len(numbers) == 1 or numbers[0] < numbers[1]) and grows_at(q, family, numbers)


def finite_holds(q, family, thing):
    """Whether any value is a right certificate for a family."""
    look_at_family(q, family)
    if not isinstance(thing, tuple) or not 2 <= len(thing) <= 3:
        return False
    if thing[0] == FINITE and len(thing) == 3:
        return shows_finite(q, family, thing[1], thing[2])
    return thing[0] == ENDLESS and len(thing) == 2 and shows_endless(q, family, thing[1])


def finite_change(q, family):
    """(maps, change): the maps of one sort as which all steps are seen by a change; raises NotFinite."""
    certificate = judge_family(q, family)
    if certificate[0] == ENDLESS:
        raise NotFinite(certificate)
    return (maps_of_sort(q, certificate[2]), certificate[1])


def maps_seen(q, steps, maps, change):
    """The steps seen by a change as maps of one sort; None in the place of a step that is none of these."""
    return [maps.map_of_step(seen_by(q, step, change)) for step in steps]


def is_within(q, one, other):
    """Whether all deeds of one family are deeds of another one, both having finitely many deeds."""
    look_at_family(q, one)
    look_at_family(q, other)
    finite_change(q, one)
    maps, change = finite_change(q, other)
    group = chain_of(maps, maps_seen(q, other, maps, change))
    return all([found is not None and group.contains(found) for found in maps_seen(q, one, maps, change)])
