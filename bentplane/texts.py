"""Texts of steps [14.5]."""

from bentplane.errors import BadText
from bentplane.leastrows import NO_TURN
from bentplane.steps import is_step, look_at_steps

START = "start"
BEND = "bend"
TURN = "turn"
LAST = "last"
SORTS_OF_PARTS = (START, BEND, TURN, LAST)
NO_TURN_WORD = "-"


def part_text(sort, numbers):
    """The word of a sort of parts, and some numbers behind it."""
    return " ".join([sort, *[str(number) for number in numbers]])


def text_of_step(step):
    """The text of a step."""
    start, bends, turns, last = step
    parts = [part_text(START, [NO_TURN_WORD if start == NO_TURN else start])]
    for at, bend in enumerate(bends):
        if at > 0:
            parts.append(part_text(TURN, [turns[at - 1]]))
        parts.append(part_text(BEND, bend))
    parts.append(part_text(LAST, last))
    return " ".join(parts)


def step_text(q, step):
    """The text of a step."""
    look_at_steps(q, [step])
    return text_of_step(step)


def parts_of_words(q, words):
    """The words of a text in parts [sort, numbers]; numbers are told by None where a word is none."""
    known = {str(number): number for number in range(q)}
    known[NO_TURN_WORD] = NO_TURN
    parts = []
    for word in words:
        if word in SORTS_OF_PARTS:
            parts.append([word])
        elif len(parts) > 0:
            parts[-1].append(known.get(word))
    return parts


def step_of_text(q, text):
    """The step with a text; None if the text is that of no step."""
    parts = parts_of_words(q, text.split(" "))
    if [part[0] for part in parts[:1] + parts[-1:]] != [START, LAST] or len(parts[0]) != 2:
        return None
    bends = tuple([tuple(part[1:]) for part in parts if part[0] == BEND])
    turns = tuple([number for part in parts if part[0] == TURN for number in part[1:]])
    step = (parts[0][1], bends, turns, tuple(parts[-1][1:]))
    # Whatever stands elsewhere, or stands there in another way, is not in the text of the step.
    return step if is_step(q, step) and text_of_step(step) == text else None


def read_step(q, text):
    """The step with a text."""
    step = step_of_text(q, text) if isinstance(text, str) else None
    if step is None:
        raise BadText(0)
    return step
