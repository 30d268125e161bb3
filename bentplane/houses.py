"""Houses: named steps, promises about them, and deeds that can be taken back (part 14)."""

from bentplane.errors import BadName, BadPromise, BadText, Broken, Here, NoName, NothingToRedo, NothingToUndo
from bentplane.fields import CHARACTERISTICS
from bentplane.kinds import seen_by
from bentplane.leastrows import step_then, step_undone
from bentplane.promises import against, is_name, is_promise, names_of_promise
from bentplane.steps import look_at_steps
from bentplane.texts import step_of_text, text_of_step


class House:
    """Named steps and promises about them; all promises hold at all times."""

    def __init__(self, q):
        self.q = q
        # The steps by their names, and the promises. Neither is changed in place: each deed sets
        # other ones, so that those of before can be kept, and shared by other houses.
        self.steps = {}
        self.promised = ()
        # Pairs of steps and promises: those to undo to, and those to redo to, the next ones last.
        self.past = []
        self.future = []

    def names(self):
        """The ascending tuple of pairs of a name and its step."""
        return tuple(sorted(self.steps.items()))

    def look_for(self, names):
        """Raise NoName with the first of some values that is no name of the house."""
        for name in names:
            if not isinstance(name, str) or name not in self.steps:
                raise NoName(name)

    def step_of(self, name):
        """The step of a name."""
        self.look_for([name])
        return self.steps[name]

    def promises(self):
        """The promises, in the order in which they were made."""
        return self.promised

    def do(self, steps, promised):
        """Do a deed after which the house has these steps and these promises."""
        self.past.append((self.steps, self.promised))
        self.future = []
        self.steps = steps
        self.promised = promised

    def give(self, name, step):
        """Give a name another step, if all promises hold with it."""
        steps = {**self.steps, name: step}
        for promise in self.promised:
            certificate = against(self.q, steps, promise)
            if certificate is not None:
                raise Broken(promise, certificate)
        self.do(steps, self.promised)

    def put(self, name, step):
        """A new name with its step."""
        if not is_name(name):
            raise BadName(name)
        if name in self.steps:
            raise Here(name)
        look_at_steps(self.q, [step])
        self.do({**self.steps, name: step}, self.promised)

    def join(self, name, one, other):
        """A name gets the product of the steps of two names."""
        self.look_for([name, one, other])
        self.give(name, step_then(self.q, self.steps[one], self.steps[other]))

    def turn(self, name):
        """A name gets the undoing of its step."""
        self.look_for([name])
        self.give(name, step_undone(self.q, self.steps[name]))

    def change(self, name):
        """All names get their steps seen by the step that a name has before."""
        self.look_for([name])
        change = self.steps[name]
        # What promises tell stays if all steps are seen by one step.
        self.do({other: seen_by(self.q, step, change) for other, step in self.steps.items()}, self.promised)

    def leave(self, name):
        """A name is removed, and so are all promises with it."""
        self.look_for([name])
        steps = {other: step for other, step in self.steps.items() if other != name}
        self.do(steps, tuple([promise for promise in self.promised if name not in names_of_promise(promise)]))

    def make(self, thing):
        """A promise is added behind all others."""
        if not is_promise(self.steps, thing) or thing in self.promised:
            raise BadPromise(thing)
        certificate = against(self.q, self.steps, thing)
        if certificate is not None:
            raise Broken(thing, certificate)
        self.do(self.steps, (*self.promised, thing))

    def drop(self, thing):
        """A promise is removed."""
        if thing not in self.promised:
            raise BadPromise(thing)
        self.do(self.steps, tuple([promise for promise in self.promised if promise != thing]))

    def undo(self):
        """Take back the last deed that has not been taken back."""
        if len(self.past) == 0:
            raise NothingToUndo()
        self.future.append((self.steps, self.promised))
        self.steps, self.promised = self.past.pop()

    def redo(self):
        """Do again the last deed that was taken back and not yet done again."""
        if len(self.future) == 0:
            raise NothingToRedo()
        self.past.append((self.steps, self.promised))
        self.steps, self.promised = self.future.pop()

    def copied(self):
        """Another house with the same field number, names, promises, and deeds to undo and to redo."""
        found = House(self.q)
        found.steps = self.steps
        found.promised = self.promised
        found.past = list(self.past)
        found.future = list(self.future)
        return found

    def text(self):
        """The text of the house."""
        lines = [f"field {self.q}"]
        for name, step in self.names():
            lines.append(f"name {name} {text_of_step(step)}")
        for promise in self.promised:
            lines.append(" ".join(["promise", promise[0], *names_of_promise(promise)]))
        return "\n".join(lines)

    def is_same(self, thing):
        """Whether any value is a house with the same text."""
        return isinstance(thing, House) and self.text() == thing.text()


def takes_name(house, words):
    """Whether the words of a line tell the next name of a house that is read; it is put there."""
    if len(words) < 2 or len(house.promised) > 0:
        return False
    name = words[1]
    step = step_of_text(house.q, " ".join(words[2:]))
    if not is_name(name) or step is None or not all([other < name for other in house.steps]):
        return False
    house.steps = {**house.steps, name: step}
    return True


def takes_promise(house, words):
    """Whether the words of a line tell the next promise of a house that is read; it is put there."""
    names = tuple(words[2:])
    promise = ("finite", names) if words[1:2] == ["finite"] else (*words[1:2], *names)
    if not is_promise(house.steps, promise) or promise in house.promised:
        return False
    if against(house.q, house.steps, promise) is not None:
        return False
    house.promised = (*house.promised, promise)
    return True


def takes_line(house, line):
    """Whether the text of a house that is read can go on with a line; what it tells is put there."""
    words = line.split(" ")
    if words[0] == "name":
        return takes_name(house, words)
    return words[0] == "promise" and takes_promise(house, words)


def read_house(text):
    """A house with a text, with no deeds to undo or redo."""
    if not isinstance(text, str):
        raise BadText(0)
    lines = text.split("\n")
    fields = {f"field {q}": q for q in CHARACTERISTICS}
    if lines[0] not in fields:
        raise BadText(1)
    house = House(fields[lines[0]])
    # Each beginning of the text of a house is the text of a house, so one line after the other is tried.
    for number, line in enumerate(lines[1:], start=2):
        if not takes_line(house, line):
            raise BadText(number)
    return house
