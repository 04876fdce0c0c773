"""The refusals of all calls."""


class TurnError(ValueError):
    """Any refusal."""


class NoName(TurnError):
    """What was handed in is not a name of up to 30 fields."""


class NoRule(TurnError):
    """What was handed in is not a rule."""


class NoScript(TurnError):
    """What was handed in is not a script."""


class NoFolder(TurnError):
    """What was handed in is not a folder."""


class Clash(TurnError):
    """Names of a folder come to one; told are all that do, rising."""

    def __init__(self, told):
        super().__init__("several names come to one")
        self.told = told


class NoOrder(TurnError):
    """What was handed in is not an order of the folder."""


class Lost(TurnError):
    """A name comes to one that is there; told is its number in the order."""

    def __init__(self, told):
        super().__init__("a name comes to one that is there")
        self.told = told


class Ringed(TurnError):
    """No order of the folder is safe."""


class NoNumber(TurnError):
    """What was handed in is not the number of a rule."""


class NoRow(TurnError):
    """What was handed in is not a row of scripts."""


class NoWord(TurnError):
    """What was handed in is not a word."""


class Taken(TurnError):
    """What is to be added is there."""


class NotThere(TurnError):
    """What is asked for is not there."""


class Full(TurnError):
    """There is no room for another file."""


class TooLong(TurnError):
    """A name would have more than 30 fields."""


class NoDeed(TurnError):
    """There is no deed that can be undone."""


class NoText(TurnError):
    """What was handed in is not the text of a rule or a script."""
