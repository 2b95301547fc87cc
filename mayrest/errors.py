"""The errors of the package, with their arguments as fields."""


class RestError(ValueError):
    """What is passed is not what is asked for, or what is asked for cannot be done."""


class BadBatch(RestError):
    """What is to be run is no list or tuple of so few values."""


class BadBook(RestError):
    """Some rules make no book; error is the reason against them."""

    def __init__(self, error):
        self.error = error


class BadEdit(RestError):
    """The item with this index, of those that are to be run, is no edit."""

    def __init__(self, index):
        self.index = index


class BadPath(RestError):
    """What stands in the place of a path is none."""

    def __init__(self, path):
        self.path = path


class BadProgram(RestError):
    """Modules and uses make no program; error is the reason against them."""

    def __init__(self, error):
        self.error = error


class BadReason(RestError):
    """What stands in the place of a reason is none."""

    def __init__(self, reason):
        self.reason = reason


class BadRule(RestError):
    """What stands in the place of a rule is none; word says what is wrong."""

    def __init__(self, word):
        self.word = word


class BadText(RestError):
    """A text cannot be read: the number of the line, and what is wrong there."""

    def __init__(self, line, code):
        self.line = line
        self.code = code


class BadUse(RestError):
    """The value with this index is no pair of two different paths."""

    def __init__(self, index):
        self.index = index


class Breaks(RestError):
    """An edit would break a rule that was not broken before."""

    def __init__(self, rule, evidence):
        self.rule = rule
        self.evidence = evidence


class Circular(RestError):
    """Some paths rest on one another in a ring."""

    def __init__(self, evidence):
        self.evidence = evidence


class Clash(RestError):
    """The path overlaps a module."""

    def __init__(self, path):
        self.path = path


class Full(RestError):
    """So many edits are in effect that there is no room for another one."""


class InUse(RestError):
    """The module is in a use, so that it cannot be dropped."""

    def __init__(self, path):
        self.path = path


class Itself(RestError):
    """The module stands where two different ones are asked for."""

    def __init__(self, path):
        self.path = path


class NothingToUndo(RestError):
    """No edit is in effect that could be taken back."""


class Overlap(RestError):
    """The path overlaps another one that is passed with it."""

    def __init__(self, path):
        self.path = path


class Rejected(RestError):
    """The edit with this index, of those that are to be run, raises an error."""

    def __init__(self, index):
        self.index = index


class Ring(RestError):
    """The program has a ring."""

    def __init__(self, ring):
        self.ring = ring


class Taken(RestError):
    """The use or the rule is there already."""

    def __init__(self, thing):
        self.thing = thing


class TooMany(RestError):
    """More is needed, or would be there, than the limit lets in."""

    def __init__(self, limit):
        self.limit = limit


class Unclear(RestError):
    """The last name of a module stands in another place, too."""

    def __init__(self, name):
        self.name = name


class NoAllowance(LookupError):
    """The use is not allowed."""

    def __init__(self, use):
        self.use = use


class NoModule(LookupError):
    """The path is no module."""

    def __init__(self, path):
        self.path = path


class NoPart(LookupError):
    """The path covers no module."""

    def __init__(self, path):
        self.path = path


class NoRule(LookupError):
    """No rule has this index."""

    def __init__(self, index):
        self.index = index


class NoUse(LookupError):
    """The pair is no use of the program."""

    def __init__(self, use):
        self.use = use
