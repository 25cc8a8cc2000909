"""The errors of the package."""


class TurnError(ValueError):
    """The base of all errors of the package."""


class BadWorld(TurnError):
    """A line of a world is wrong, or lacking behind the last one."""

    def __init__(self, line):
        self.line = line


class BadClaim(TurnError):
    """A claim has none of the forms of claims."""


class NoReading(TurnError):
    """A name in a claim is no reading of the world."""

    def __init__(self, name):
        self.name = name


class NotTogether(TurnError):
    """Two readings are never read in the same call, or they are one."""


class BadValues(TurnError):
    """A value is empty, of another length than the one ahead of it, or below it."""

    def __init__(self, index):
        self.index = index


class NoActor(TurnError):
    """A name is neither that of the writer nor that of a reader."""

    def __init__(self, name):
        self.name = name


class BadVersions(TurnError):
    """A list of versions does not fit to the values or to the other list."""


class BadPlan(TurnError):
    """A line of a plan is wrong, or lacking behind the last one."""

    def __init__(self, line):
        self.line = line


class BadChoice(TurnError):
    """A choice is not possible in the plan."""


class NoRegister(TurnError):
    """A name is not that of a register."""

    def __init__(self, name):
        self.name = name


class NothingToUndo(TurnError):
    """Each step is undone already."""
