"""Part 14, [14.5]: texts of steps."""

import unittest

from bentplane import texts
from bentplane.errors import BadStep, BadText
from tests import reference, samples
from tests.plain import NOTHING, SAME, SWAP
from tests.reference import FIELDS


def told_text(step):
    """The text of a step, by the words of [14.5]."""
    start, bends, turns, last = step
    found = "start " + ("-" if start == -1 else str(start))
    for at, bend in enumerate(bends):
        found += " bend" + "".join(" " + str(n) for n in bend)
        if at < len(bends) - 1:
            found += " turn " + str(turns[at])
    return found + " last" + "".join(" " + str(n) for n in last)


def some_steps(q, draw):
    found = [samples.step(q, draw, samples.some_degrees(draw, many)) for many in range(13)]
    return found + [NOTHING, (-1, (), (), SWAP), (0, ((0, 0, 1),), (), SAME), (q - 1, ((0, 0, 1),), (), SAME)]


def changed(text, draw):
    """A text with a word left out, doubled, exchanged, or put in another way, or with a character changed."""
    words = text.split(" ")
    at, other = draw.randrange(len(words)), draw.randrange(len(words))
    way = draw.randrange(9)
    if way == 0:
        del words[at]
    elif way == 1:
        words.insert(at, words[at])
    elif way == 2:
        words[at], words[other] = words[other], words[at]
    elif way == 3:
        words[at] = draw.choice(("-1", "+1", "01", "00", "-0", "", "16", "17", "1_0", "x", "START", "bends", "None", "-"))
    elif way == 4:
        words[at] = draw.choice(("start", "bend", "turn", "last", "-", "0", "1", "2"))
    elif way == 5:
        return " ".join(words[:at + 1])
    else:
        place = draw.randrange(len(text) + 1)
        sign = draw.choice(" \n-+0123z.,")
        return text[:place] + sign + text[place + draw.randrange(2):]
    return " ".join(words)


class Texts(unittest.TestCase):
    def test_there_and_back(self):
        for q in FIELDS:
            for step in some_steps(q, samples.drawer(q, "texts")):
                text = texts.step_text(q, step)
                self.assertEqual([text, type(text)], [told_text(step), str])
                self.assertEqual(texts.read_step(q, text), step)

    def test_known_texts(self):
        step = (-1, ((0, 0, 1),), (), (0, 1, 0, 1, 0, 0))
        self.assertEqual(texts.step_text(3, step), "start - bend 0 0 1 last 0 1 0 1 0 0")
        self.assertEqual(texts.step_text(16, NOTHING), "start - last 1 0 0 0 1 0")
        step = (15, ((0, 0, 15), (0, 0, 0, 3)), (10,), SAME)
        self.assertEqual(texts.step_text(16, step), "start 15 bend 0 0 15 turn 10 bend 0 0 0 3 last 1 0 0 0 1 0")

    def test_bad_steps(self):
        for q in FIELDS:
            draw = samples.drawer(q, "bad steps")
            for bad in samples.odd_values() + samples.spoilt(samples.step(q, draw, (2, 3)), draw, 40):
                if reference.is_step(q, bad):
                    continue
                with self.assertRaises(BadStep) as caught:
                    texts.step_text(q, bad)
                self.assertIs(caught.exception.thing, bad)

    def check_refused(self, q, thing):
        with self.assertRaises(BadText) as caught:
            texts.read_step(q, thing)
        self.assertEqual([caught.exception.line, type(caught.exception.line)], [0, int])

    def test_changed_texts(self):
        for q in FIELDS:
            draw = samples.drawer(q, "changed")
            told, refused = {}, 0
            for step in some_steps(q, draw):
                told[told_text(step)] = step
            for text in list(told):
                for _ in range(60):
                    other = changed(text, draw)
                    if draw.random() < 0.3:
                        other = changed(other, draw)
                    found = self.read(q, other)
                    if found is None:
                        refused += 1
                        self.check_refused(q, other)
                    else:
                        # Another step has come of the change; it has just this text.
                        self.assertTrue(reference.is_step(q, found))
                        self.assertEqual(told_text(found), other)
            self.assertGreater(refused, 400)

    def read(self, q, text):
        try:
            return texts.read_step(q, text)
        except BadText:
            return None

    def test_wrong_texts(self):
        good = "start - bend 0 0 1 turn 1 bend 0 0 1 last 1 0 0 0 1 0"
        for q in FIELDS:
            self.assertEqual(told_text(texts.read_step(q, good)), good)
            for bad in (
                "", " ", "\n", "start", "start -", "last 1 0 0 0 1 0", "start - last 1 0 0 0 1", "start - last 1 0 0 0 1 0 0",
                "start -  last 1 0 0 0 1 0", " start - last 1 0 0 0 1 0", "start - last 1 0 0 0 1 0 ", good + "\n", "\n" + good,
                "start 0 last 1 0 0 0 1 0", "start -1 last 1 0 0 0 1 0", "start - - last 1 0 0 0 1 0", "start last 1 0 0 0 1 0",
                "start - last 1 0 0 0 1 00", "start - last 1 0 0 0 +1 0", "start - last 0 0 0 0 0 0", "start - last 1 0 - 0 1 0",
                "start - turn 1 last 1 0 0 0 1 0", "start - bend last 1 0 0 0 1 0", "start - bend 0 0 last 1 0 0 0 1 0",
                "start - bend 0 0 0 last 1 0 0 0 1 0", "start - bend 0 1 1 last 1 0 0 0 1 0", good.replace("turn 1 ", ""),
                good.replace("turn 1", "turn"), good.replace("turn 1", "turn 1 1"), good.replace("turn 1", "turn 1 turn 1"),
                good.replace("turn 1", "turn -"), good.replace("last", "turn 1 last"), good.replace("start -", "start - turn 1"),
                "start - bend 0 0 1 bend 0 0 1 turn 1 last 1 0 0 0 1 0", "start - turn 1 bend 0 0 1 bend 0 0 1 last 1 0 0 0 1 0",
                good + " last 1 0 0 0 1 0", "start - " + good, good + " start -", "bend 0 0 1 start - last 1 0 0 0 1 0",
                good.replace(" ", "\n"), good.replace(" ", "  "), good.upper(), good.replace("1 0 0 0 1 0", "1,0,0,0,1,0"),
                "start - last " + "1" * 1500 + " 0 0 0 1 0", "start - bend 0 0 0 0 0 0 0 1 last 1 0 0 0 1 0",
                "last 1 0 0 0 1 0 start -", "0 start - last 1 0 0 0 1 0", "start - last 1 0 0 0 1 0 end",
                f"start {q} bend 0 0 1 last 1 0 0 0 1 0", f"start - bend 0 0 {q} last 1 0 0 0 1 0", f"start - last 1 0 {q} 0 1 0",
            ):
                self.check_refused(q, bad)

    def test_texts_over_another_field(self):
        for q in FIELDS:
            for other in FIELDS:
                step = samples.step(other, samples.drawer(other, "other"), (2, 3))
                if reference.is_step(q, step):
                    self.assertEqual(texts.read_step(q, told_text(step)), step)
                else:
                    self.check_refused(q, told_text(step))

    def test_any_value(self):
        for q in FIELDS:
            for thing in samples.odd_values() + [NOTHING, told_text(NOTHING).split(" "), (told_text(NOTHING),), b"start"]:
                self.check_refused(q, thing)


if __name__ == "__main__":
    unittest.main()
