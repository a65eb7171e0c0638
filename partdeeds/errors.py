"""What is refused."""


class PartError(ValueError):
    """Any refusal."""


class BadPart(PartError):
    """What was handed in as a part is none; why is the first that can't be."""

    def __init__(self, why):
        self.why = why


class BadShelf(PartError):
    """The shelf has a seventh part, or a name twice."""


class BadTree(PartError):
    """What was handed in as a tree is none, or names no part of the shelf."""


class NotRight(PartError):
    """The part of this name isn't right."""

    def __init__(self, name):
        self.name = name


class NotWhole(PartError):
    """The tree has clashes, lacks, deeds that don't fit, or cells of two kinds."""


class BadCall(PartError):
    """The deed isn't there, or the argument isn't such as it takes."""


class Long(PartError):
    """The call would take too many steps, or is within too many others."""


class BadText(PartError):
    """The text can't be read; place is where it first goes wrong."""

    def __init__(self, place):
        self.place = place
