"""The errors of the package: four classes, and below them one for each kind of failure."""


class MidwayError(ValueError):
    """A value is not what a parameter takes."""


class InvalidNumber(MidwayError):
    """The value is no number of the kind that is needed."""

    def __init__(self, value):
        self.value = value


class InvalidName(MidwayError):
    """The value is no name."""

    def __init__(self, value):
        self.value = value


class InvalidWeights(MidwayError):
    """The value is no dict from names to numbers."""

    def __init__(self, value):
        self.value = value


class InvalidForm(MidwayError):
    """The value is no form."""

    def __init__(self, value):
        self.value = value


class InvalidPlace(MidwayError):
    """The value is no place with all the things that are needed."""

    def __init__(self, value):
        self.value = value


class InvalidThings(MidwayError):
    """The things are no list, or wrong at a position."""

    def __init__(self, position):
        self.position = position


class InvalidScenes(MidwayError):
    """The scenes are no dict, or wrong for a name."""

    def __init__(self, name):
        self.name = name


class InvalidArrows(MidwayError):
    """The arrows are no list, or wrong at a position."""

    def __init__(self, position):
        self.position = position


class InvalidArrow(MidwayError):
    """The value is no tuple of two scenes."""

    def __init__(self, value):
        self.value = value


class InvalidResting(MidwayError):
    """The resting scenes are no list, or wrong at a position."""

    def __init__(self, position):
        self.position = position


class InvalidEntry(MidwayError):
    """The value is no tuple of a scene and a thing."""

    def __init__(self, value):
        self.value = value


class InvalidMotion(MidwayError):
    """The value is no tuple of a goal and a length."""

    def __init__(self, value):
        self.value = value


class InvalidBook(MidwayError):
    """The value is no book."""

    def __init__(self, value):
        self.value = value


class InvalidCalls(MidwayError):
    """The calls are no list, or wrong at a position."""

    def __init__(self, position):
        self.position = position


class InvalidRun(MidwayError):
    """The value is no run."""

    def __init__(self, value):
        self.value = value


class InvalidTime(MidwayError):
    """The value is no time within what it is a time of."""

    def __init__(self, value):
        self.value = value


class InvalidPlane(MidwayError):
    """The value is no plane."""

    def __init__(self, value):
        self.value = value


class InvalidPoint(MidwayError):
    """The value is no corner of the hull."""

    def __init__(self, value):
        self.value = value


class InvalidKind(MidwayError):
    """The value is no kind of ways that is taken."""

    def __init__(self, value):
        self.value = value


class InvalidShares(MidwayError):
    """Shares are not right, perhaps at a position."""

    def __init__(self, position):
        self.position = position


class InvalidWishes(MidwayError):
    """The wishes are no list, or wrong at a position."""

    def __init__(self, position):
        self.position = position


class InvalidMends(MidwayError):
    """The mends are no list, or wrong at a position."""

    def __init__(self, position):
        self.position = position


class InvalidText(MidwayError):
    """The text is no string, or wrong at a line."""

    def __init__(self, line):
        self.line = line


class InvalidClaim(MidwayError):
    """The value is no claim."""

    def __init__(self, value):
        self.value = value


class InvalidCommand(MidwayError):
    """The value is no command."""

    def __init__(self, value):
        self.value = value


class MissingError(LookupError):
    """A value is of the right kind, but nothing is known by it."""


class UnknownThing(MissingError):
    """There is no such thing."""

    def __init__(self, value):
        self.value = value


class UnknownScene(MissingError):
    """There is no such scene."""

    def __init__(self, value):
        self.value = value


class UnknownArrow(MissingError):
    """There is no such arrow."""

    def __init__(self, value):
        self.value = value


class UnknownName(MissingError):
    """Nothing of the needed kind has this name."""

    def __init__(self, value):
        self.value = value


class StateError(RuntimeError):
    """What is asked for cannot be done as things are."""


class DividedByZero(StateError):
    """A number cannot be divided by 0."""


class ArrowTaken(StateError):
    """The arrow is there already."""

    def __init__(self, value):
        self.value = value


class NameTaken(StateError):
    """The name is in use already."""

    def __init__(self, name):
        self.name = name


class NoFirst(StateError):
    """There is no first scene."""


class NotAllowed(StateError):
    """The call at a position is not allowed."""

    def __init__(self, position):
        self.position = position


class NoArrow(StateError):
    """No arrow leads from the one scene to the other."""

    def __init__(self, one, other):
        self.one = one
        self.other = other


class TooEarly(StateError):
    """The resting scene that is on has not come to rest."""

    def __init__(self, name):
        self.name = name


class NothingToUndo(StateError):
    """There is no change to take back."""


class CommandFailed(StateError):
    """The command at a position raised an error."""

    def __init__(self, position):
        self.position = position


class LimitError(ArithmeticError):
    """A limit of the package is passed."""


class TooMany(LimitError):
    """There is more of something than the limit lets."""

    def __init__(self, what, limit):
        self.what = what
        self.limit = limit
