"""Deeds of families, found by listing them one by one with products of steps alone.

Of the package only bentplane.steps is used here, which has its own tests.
"""

from bentplane import steps
from tests.plain import NOTHING


def moves(q, family):
    """The ascending list of pairs of a letter and its step."""
    found = []
    for at, step in enumerate(family):
        found += [(at + 1, step), (-at - 1, steps.undoing(q, step))]
    return sorted(found)


def letter_by_letter(q, family, word):
    """The step that a word makes, as a product of one letter after the other."""
    made = dict(moves(q, family))
    found = NOTHING
    for letter in word:
        found = steps.product(q, found, made[letter])
    return found


def shortest_words(q, family, most):
    """For each deed the least of its shortest words; None if there are more deeds than most."""
    found, layer = {NOTHING: ()}, [((), NOTHING)]
    while layer:
        fresh = {}
        for word, step in layer:
            for letter, move in moves(q, family):
                made = steps.product(q, step, move)
                longer = (*word, letter)
                if made not in found and longer < fresh.get(made, longer + (0,)):
                    fresh[made] = longer
        found.update(fresh)
        if len(found) > most:
            return None
        layer = [(word, step) for step, word in fresh.items()]
    return found
