"""The errors of the package, each with the field that tells what was wrong."""


class CursorError(ValueError):
    """The base class of all errors of the package."""


class InvalidTree(CursorError):
    """What should be a tree is none."""

    def __init__(self, thing=None):
        self.thing = thing


class InvalidState(CursorError):
    """What should be a state is none."""

    def __init__(self, thing=None):
        self.thing = thing


class InvalidPattern(CursorError):
    """What should be a pattern is none."""

    def __init__(self, thing=None):
        self.thing = thing


class InvalidRewriting(CursorError):
    """What should be a rewriting is none."""

    def __init__(self, thing=None):
        self.thing = thing


class InvalidFilling(CursorError):
    """What should fill the unknowns of a pattern does not."""

    def __init__(self, thing=None):
        self.thing = thing


class InvalidCommand(CursorError):
    """What should be a command is none."""

    def __init__(self, thing=None):
        self.thing = thing


class InvalidScript(CursorError):
    """What should be a script is none; problem is what check_script tells."""

    def __init__(self, problem=None):
        self.problem = problem


class InvalidList(CursorError):
    """What should be a list is none; problem is what check_list tells."""

    def __init__(self, problem=None):
        self.problem = problem


class InvalidPath(CursorError):
    """What should be a path is none; place is the number of its first wrong item."""

    def __init__(self, place=None):
        self.place = place


class InvalidCommands(CursorError):
    """What should be commands are none; place is the number of the first wrong item."""

    def __init__(self, place=None):
        self.place = place


class InvalidCount(CursorError):
    """What should be a count is none."""

    def __init__(self, most=None):
        self.most = most


class InvalidLabels(CursorError):
    """What should be labels are none."""

    def __init__(self, thing=None):
        self.thing = thing


class InvalidLikeness(CursorError):
    """What should be a likeness is none."""

    def __init__(self, likeness=None):
        self.likeness = likeness


class Drops(CursorError):
    """A rewriting does not keep the way; number tells which."""

    def __init__(self, number=None):
        self.number = number


class InvalidNumber(CursorError):
    """What should be the number of a deed is none."""

    def __init__(self, number=None):
        self.number = number


class Needed(CursorError):
    """A deed would fail without the one that is left out; number tells which."""

    def __init__(self, number=None):
        self.number = number


class NotOneToOne(CursorError):
    """A script makes one state of the two states."""

    def __init__(self, states=None):
        self.states = states


class InvalidName(CursorError):
    """What should be a name is none."""

    def __init__(self, name=None):
        self.name = name


class NoSuchName(CursorError):
    """No state is kept by the name."""

    def __init__(self, name=None):
        self.name = name


class Failed(CursorError):
    """A script fails for the state of the name."""

    def __init__(self, name=None):
        self.name = name


class Unreadable(CursorError):
    """A string is no text; at tells where this shows."""

    def __init__(self, at=None):
        self.at = at


class NoBack(CursorError):
    """No list leads back."""


class TooMany(CursorError):
    """There are too many scripts to look at."""


class NothingToUndo(CursorError):
    """No call is left to take back."""
