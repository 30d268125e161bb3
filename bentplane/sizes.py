"""How many deeds a family has, and which ones ([9.1], [9.3])."""

from math import gcd

from bentplane.chains import chain_of
from bentplane.errors import NotFinite
from bentplane.families import finite_change, look_at_family, maps_seen
from bentplane.kinds import seen_by
from bentplane.leastrows import step_undone
from bentplane.steps import look_at_steps

# More deeds than these are not listed.
MOST_DEEDS = 2000


def makers_of(q, family):
    """(maps, change, makers): the steps of a family, seen by a change, as maps of one sort; raises NotFinite."""
    maps, change = finite_change(q, family)
    return (maps, change, maps_seen(q, family, maps, change))


def many_deeds(q, family):
    """How many deeds a family has; None if endlessly many."""
    look_at_family(q, family)
    try:
        maps, _, makers = makers_of(q, family)
    except NotFinite:
        return None
    return chain_of(maps, makers).many()


def is_deed(q, family, step):
    """Whether a step is a deed of a family with finitely many deeds."""
    look_at_family(q, family)
    look_at_steps(q, [step])
    maps, change, makers = makers_of(q, family)
    found = maps_seen(q, [step], maps, change)[0]
    return found is not None and chain_of(maps, makers).contains(found)


def letters_of(maps, makers):
    """The ascending list of pairs of a letter and the map for which it stands."""
    numbered = list(enumerate(makers, start=1))
    undone = [(-number, maps.undone(one)) for number, one in reversed(numbered)]
    return undone + numbered


def deeds_in_layers(maps, makers, sought):
    """(layers, ways): the deeds whose shortest words have 0, 1, 2, .. letters, till there are no more or one is found.

    In each layer they stand in the order of the least of their shortest words; ways tells for each
    deed the one that its word makes without the last letter, and this letter.
    """
    letters = letters_of(maps, makers)
    ways = {maps.same: (maps.same, 0)}
    layers = [[maps.same]]
    while len(layers[-1]) > 0 and sought not in ways:
        fresh = []
        for one in layers[-1]:
            for letter, move in letters:
                other = maps.then(one, move)
                if other not in ways:
                    ways[other] = (one, letter)
                    fresh.append(other)
        layers.append(fresh)
    return (layers, ways)


def all_deeds(maps, makers):
    """The list of all deeds, as maps of one sort."""
    layers = deeds_in_layers(maps, makers, None)[0]
    return [one for layer in layers for one in layer]


def as_steps(q, found, maps, change):
    """The ascending tuple of the steps that are seen by a change as maps of one sort."""
    back = step_undone(q, change)
    return tuple(sorted([seen_by(q, maps.step_of_map(one), back) for one in found]))


def deeds(q, family):
    """The ascending tuple of all deeds; None if there are more than 2,000, or endlessly many."""
    look_at_family(q, family)
    try:
        maps, change, makers = makers_of(q, family)
    except NotFinite:
        return None
    if chain_of(maps, makers).many() > MOST_DEEDS:
        return None
    return as_steps(q, all_deeds(maps, makers), maps, change)


def word_for(q, family, step):
    """The least of the shortest words that make a step; None if it is no deed."""
    look_at_family(q, family)
    look_at_steps(q, [step])
    maps, change, makers = makers_of(q, family)
    found = maps_seen(q, [step], maps, change)[0]
    if found is None or not chain_of(maps, makers).contains(found):
        return None
    ways = deeds_in_layers(maps, makers, found)[1]
    word = []
    while found != maps.same:
        found, letter = ways[found]
        word.append(letter)
    return tuple(word[::-1])


def by_length(q, family):
    """How many deeds have a shortest word of 0, 1, 2, .. letters."""
    look_at_family(q, family)
    maps, _, makers = makers_of(q, family)
    layers = deeds_in_layers(maps, makers, None)[0]
    return tuple([len(layer) for layer in layers if len(layer) > 0])


def middle(q, family):
    """The ascending tuple of the deeds that commute with all deeds."""
    look_at_family(q, family)
    maps, change, makers = makers_of(q, family)
    found = [
        one for one in all_deeds(maps, makers)
        if all([maps.then(one, maker) == maps.then(maker, one) for maker in makers])
    ]
    return as_steps(q, found, maps, change)


def repeats_of(maps, one):
    """The list of the repeats of a map, from the first one to nothing."""
    found = [one]
    while found[-1] != maps.same:
        found.append(maps.then(found[-1], one))
    return found


def orders_of(q, family):
    """The ascending tuple of pairs of an order and how many deeds have it."""
    look_at_family(q, family)
    maps, _, makers = makers_of(q, family)
    orders = {}
    for one in all_deeds(maps, makers):
        if one not in orders:
            repeats = repeats_of(maps, one)
            for n, other in enumerate(repeats, start=1):
                orders[other] = len(repeats) // gcd(n, len(repeats))
    counts = {}
    for many in orders.values():
        counts[many] = counts.get(many, 0) + 1
    return tuple(sorted(counts.items()))
