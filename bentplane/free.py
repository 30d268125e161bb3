"""Two steps free of one another: trades, certificates, words told back (part 10)."""

from bentplane.errors import BadTrade, NotFree
from bentplane.families import is_letter, look_at_family, step_by_word
from bentplane.fields import is_integer
from bentplane.kinds import core_order, rests_after, shortened, step_walk
from bentplane.leastrows import NOTHING, row_by_step, step_and_row, step_then, step_undone
from bentplane.places import ROOT, places_between
from bentplane.steps import look_at_steps
from bentplane.tree import nearest_place, place_moved

# For each trade the position of the step that it changes, and whether the other one is put behind it undone.
TRADES = {"1+2": (0, False), "1-2": (0, True), "2+1": (1, False), "2-1": (1, True)}
# The four letters of words for two steps.
LETTERS = (-2, -1, 1, 2)
FREE = "free"
TIED = "tied"
# A right certificate leads to no step with more than 60 bends; what goes far beyond is not worked out.
FAR_TOO_MANY_BENDS = 240


def is_trade(thing):
    """Whether any value is a trade."""
    return isinstance(thing, str) and thing in TRADES


def pair_traded(q, pair, trade):
    """The pair of steps behind a trade."""
    at, is_undone = TRADES[trade]
    other = step_undone(q, pair[1 - at]) if is_undone else pair[1 - at]
    changed = step_then(q, pair[at], other)
    return (changed, pair[1]) if at == 0 else (pair[0], changed)


def traded(q, one, other, trade):
    """The pair of steps behind a trade."""
    look_at_steps(q, [one, other])
    if not is_trade(trade):
        raise BadTrade(trade)
    return pair_traded(q, (one, other), trade)


def word_then(one, other):
    """One word and then another one, without letters beside their undoings."""
    cut = 0
    while cut < min(len(one), len(other)) and one[len(one) - 1 - cut] == -other[cut]:
        cut += 1
    return one[:len(one) - cut] + other[cut:]


def word_undone(word):
    """The word that undoes a word."""
    return tuple([-letter for letter in reversed(word)])


def words_traded(words, trade):
    """Two words for steps of a pair, behind a trade."""
    at, is_undone = TRADES[trade]
    other = word_undone(words[1 - at]) if is_undone else words[1 - at]
    changed = word_then(words[at], other)
    return (changed, words[1]) if at == 0 else (words[0], changed)


def lessening_trade(q, pair):
    """A trade that makes the longer walk of two growing steps at most the difference of both; None if spread."""
    one, other = pair
    walks = (step_walk(q, one), step_walk(q, other))
    difference = abs(walks[0] - walks[1])
    # The step with the longer walk is changed. Walks stay if a product is turned round or undone.
    names = ("1+2", "1-2") if walks[0] >= walks[1] else ("2+1", "2-1")
    if step_walk(q, step_then(q, one, other)) <= difference:
        return names[0]
    if step_walk(q, step_then(q, one, step_undone(q, other))) <= difference:
        return names[1]
    return None


def both_grow(q, pair):
    """Whether both steps of a pair grow."""
    return step_walk(q, pair[0]) > 0 and step_walk(q, pair[1]) > 0


def pair_is_spread(q, pair):
    """Whether a pair of steps is spread."""
    return both_grow(q, pair) and lessening_trade(q, pair) is None


def is_spread(q, one, other):
    """Whether a pair of steps is spread."""
    look_at_steps(q, [one, other])
    return pair_is_spread(q, (one, other))


def traded_to_the_end(q, one, other):
    """(pair, words, trades): a spread pair or one with a step that rests, its words, and the trades that lead there."""
    pair = (one, other)
    words = ((1,), (2,))
    trades = []
    # Each trade makes the longer walk less, and walks are not below 0.
    while both_grow(q, pair) and (trade := lessening_trade(q, pair)) is not None:
        pair = pair_traded(q, pair, trade)
        words = words_traded(words, trade)
        trades.append(trade)
    return (pair, words, tuple(trades))


def certificate_of(q, pair, words, trades):
    """The certificate that shows what trades to the end have led to."""
    for step, word in zip(pair, words):
        if step_walk(q, step) == 0:
            return (TIED, word, core_order(q, shortened(q, step)[0]))
    return (FREE, trades)


def judge_two(q, one, other):
    """A certificate that two steps are free, or that they are not."""
    pair, words, trades = traded_to_the_end(q, one, other)
    return certificate_of(q, pair, words, trades)


def judge_free(q, one, other):
    """A certificate that two steps are free, or that they are not."""
    look_at_steps(q, [one, other])
    return judge_two(q, one, other)


def lead_to_spread(q, pair, trades):
    """Whether any value is a tuple of trades that lead from a pair to a spread pair."""
    if not isinstance(trades, tuple) or not all([is_trade(trade) for trade in trades]):
        return False
    found = pair
    for trade in trades:
        found = pair_traded(q, found, trade)
        if max([len(step[1]) for step in found]) > FAR_TOO_MANY_BENDS:
            return False
    return pair_is_spread(q, found)


def is_told_word(pair, thing):
    """Whether any value is a word for a pair, not empty, in which no letter stands beside its undoing."""
    if not isinstance(thing, tuple) or len(thing) == 0 or not all([is_letter(pair, part) for part in thing]):
        return False
    return all([thing[k] != -thing[k + 1] for k in range(len(thing) - 1)])


def are_tied_by(q, pair, word, n):
    """Whether any value as word is a word that makes a step whose repeat, of any value as n, is nothing."""
    if not is_told_word(pair, word) or not is_integer(n) or n < 1:
        return False
    return rests_after(q, step_by_word(q, pair, word), n)


def free_holds(q, one, other, thing):
    """Whether any value is a right certificate for two steps."""
    look_at_steps(q, [one, other])
    if not isinstance(thing, tuple) or not 2 <= len(thing) <= 3:
        return False
    if thing[0] == FREE and len(thing) == 2:
        return lead_to_spread(q, (one, other), thing[1])
    return thing[0] == TIED and len(thing) == 3 and are_tied_by(q, (one, other), thing[1], thing[2])


def are_free(q, one, other):
    """Whether two steps are free."""
    return judge_free(q, one, other)[0] == FREE


def place_between_lines(q, one, other):
    """A place of the line of one step that is nearest to the line of another one, both growing."""
    return nearest_place(q, one, nearest_place(q, other, nearest_place(q, one, ROOT)))


def many_alike(one, other):
    """How many places two ways have in common from their beginning on."""
    many = 0
    while many < min(len(one), len(other)) and one[many] == other[many]:
        many += 1
    return many


def spread_word(q, pair, step):
    """The word for a spread pair that makes a step; None if the step is no deed of the pair."""
    start = place_between_lines(q, pair[0], pair[1])
    moves = {1: pair[0], -1: step_undone(q, pair[0]), 2: pair[1], -2: step_undone(q, pair[1])}
    ways = {letter: places_between(start, place_moved(q, moves[letter], start)) for letter in LETTERS}
    word = ()
    left = step
    way = places_between(start, place_moved(q, left, start))
    most = len(way) - 1
    while left != NOTHING and len(word) < most:
        # The first letter of the word for what is left is the one whose way goes along furthest.
        alike = [(many_alike(way, ways[letter]), letter) for letter in LETTERS]
        letter = max(alike)[1]
        word = (*word, letter)
        left = step_then(q, moves[-letter], left)
        way = places_between(start, place_moved(q, left, start))
    return word if left == NOTHING else None


def word_put(word, words):
    """The word that comes of a word if its letters are put as words."""
    found = ()
    for letter in word:
        part = words[abs(letter) - 1]
        found = word_then(found, part if letter > 0 else word_undone(part))
    return found


def free_word(q, one, other, step):
    """The only word as in [10.1] for two free steps that makes a step; None if it is no deed of the two."""
    look_at_steps(q, [one, other, step])
    pair, words, trades = traded_to_the_end(q, one, other)
    certificate = certificate_of(q, pair, words, trades)
    if certificate[0] == TIED:
        raise NotFree(certificate)
    word = spread_word(q, pair, step)
    return word_put(word, words) if word is not None else None


def unlike(q, family, n):
    """How many unlike deeds the words of at most n letters make."""
    look_at_family(q, family)
    rows = [row_by_step(move) for step in family for move in (step, step_undone(q, step))]
    known = {NOTHING: True}
    layer = [NOTHING]
    for _ in range(n):
        fresh = []
        for step in layer:
            for row in rows:
                made = step_and_row(q, step, row)
                if made not in known:
                    known[made] = True
                    fresh.append(made)
        layer = fresh
    return len(known)
