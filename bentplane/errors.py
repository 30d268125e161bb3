"""The errors of the package, all of them direct subclasses of PlaneError."""


class PlaneError(Exception):
    """The base class of all errors of the package."""


class BadPair(PlaneError):
    """A value in the place of a pair that is no pair."""

    def __init__(self, thing):
        self.thing = thing


class BadPiece(PlaneError):
    """A value in the place of a row of pieces that is none."""

    def __init__(self, place):
        self.place = place


class BadStep(PlaneError):
    """A value in the place of a step that is no step."""

    def __init__(self, thing):
        self.thing = thing


class BadPlace(PlaneError):
    """A value in the place of a place of the tree that is none."""

    def __init__(self, thing):
        self.thing = thing


class BadFamily(PlaneError):
    """A value in the place of a family that is none."""

    def __init__(self, place):
        self.place = place


class BadWord(PlaneError):
    """A value in the place of a word for a family that is none."""

    def __init__(self, place):
        self.place = place


class NotResting(PlaneError):
    """A step that grows where one that rests is asked for."""

    def __init__(self, thing):
        self.thing = thing


class NotGrowing(PlaneError):
    """A step that rests where one that grows is asked for."""

    def __init__(self, thing):
        self.thing = thing


class NotFinite(PlaneError):
    """A family with endlessly many deeds where finitely many are asked for."""

    def __init__(self, certificate):
        self.certificate = certificate


class NotFree(PlaneError):
    """Two steps that are not free where free ones are asked for."""

    def __init__(self, certificate):
        self.certificate = certificate


class BadTrade(PlaneError):
    """A value in the place of a trade that is no trade."""

    def __init__(self, thing):
        self.thing = thing


class BadExchange(PlaneError):
    """A value in the place of an exchange that is none."""

    def __init__(self, thing):
        self.thing = thing


class BadName(PlaneError):
    """A value that cannot be a name in a house."""

    def __init__(self, name):
        self.name = name


class NoName(PlaneError):
    """A value that is no name of the house."""

    def __init__(self, name):
        self.name = name


class Here(PlaneError):
    """A name that the house has already."""

    def __init__(self, name):
        self.name = name


class BadPromise(PlaneError):
    """A value that is no promise that the house can take or drop."""

    def __init__(self, thing):
        self.thing = thing


class Broken(PlaneError):
    """A promise of a house that would not hold."""

    def __init__(self, promise, certificate):
        self.promise = promise
        self.certificate = certificate


class BadText(PlaneError):
    """A value that is not the text of a step or of a house."""

    def __init__(self, line):
        self.line = line


class NothingToUndo(PlaneError):
    """There is no deed of the house to take back."""


class NothingToRedo(PlaneError):
    """There is no deed of the house to do again."""
