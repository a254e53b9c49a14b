"""The errors of the package, each with at most one field."""


class LazyError(ValueError):
    """The base class of all errors of the package."""


class InvalidSize(LazyError):
    """The size is not an integer from 1 to 4."""

    def __init__(self, size=None):
        self.size = size


class InvalidMachine(LazyError):
    """The thing is not a machine, or not one of the size that is asked for."""

    def __init__(self, thing=None):
        self.thing = thing


class InvalidRow(LazyError):
    """The thing is not a row."""

    def __init__(self, thing=None):
        self.thing = thing


class InvalidMap(LazyError):
    """The thing is not a map."""

    def __init__(self, thing=None):
        self.thing = thing


class NotASetting(LazyError):
    """The thing is not a setting."""

    def __init__(self, thing=None):
        self.thing = thing


class InvalidExpression(LazyError):
    """The thing is not an expression."""

    def __init__(self, thing=None):
        self.thing = thing


class InvalidRecipe(LazyError):
    """The thing is not a recipe."""

    def __init__(self, thing=None):
        self.thing = thing


class InvalidForm(LazyError):
    """The thing does not have the form that is asked for."""

    def __init__(self, thing=None):
        self.thing = thing


class InvalidRange(LazyError):
    """The thing is not a range or a place of the row."""

    def __init__(self, thing=None):
        self.thing = thing


class InvalidMaps(LazyError):
    """The maps are not a dict (name None), or the item of this name is wrong."""

    def __init__(self, name=None):
        self.name = name


class InvalidAsks(LazyError):
    """The asks are not a dict (name None), or the item of this name is wrong."""

    def __init__(self, name=None):
        self.name = name


class NoSuchDeed(LazyError):
    """The name is not a deed of the setting."""

    def __init__(self, name=None):
        self.name = name


class NoSuchAsk(LazyError):
    """The name is not the name of an ask of the setting."""

    def __init__(self, name=None):
        self.name = name


class InvalidTurning(LazyError):
    """What tells whether a setting is turning is not a bool."""

    def __init__(self, turning=None):
        self.turning = turning


class InvalidDeeds(LazyError):
    """The deeds are not a tuple or list (place None), or the item at this place is no deed."""

    def __init__(self, place=None):
        self.place = place


class InvalidPlan(LazyError):
    """The plan is not a tuple or list (place None), or the item at this place is no step."""

    def __init__(self, place=None):
        self.place = place


class NotMade(LazyError):
    """No deeds lead to what the form tells for this place."""

    def __init__(self, place=None):
        self.place = place


class InvalidLength(LazyError):
    """The length is not an integer within its bounds."""

    def __init__(self, length=None):
        self.length = length


class InvalidTable(LazyError):
    """The table has this problem."""

    def __init__(self, problem=None):
        self.problem = problem


class InvalidTags(LazyError):
    """The tag table has this problem."""

    def __init__(self, problem=None):
        self.problem = problem


class Unreadable(LazyError):
    """The text is not a string (line 0), or it cannot be read on from this line."""

    def __init__(self, line=None):
        self.line = line


class TooMany(LazyError):
    """There are more records, tags or states than the function works with."""


class NothingToUndo(LazyError):
    """There is no step that can be taken back."""
