"""The refusals of the program."""


class SoundError(ValueError):
    """Any refusal."""


class TooMany(SoundError):
    """An order has more standings than are gone through."""


class NoSide(SoundError):
    """Two orders are not of one side."""


class NoNumber(SoundError):
    """There is nothing that has this number."""


class NoSource(SoundError):
    """What was handed in is no source."""


class NoText(SoundError):
    """A text is written otherwise; part is the number of its first wrong part."""

    def __init__(self, part):
        self.part = part


class NoCall(SoundError):
    """A desk's row is none; row is what was said."""

    def __init__(self, row):
        self.row = row


class NoKept(SoundError):
    """A desk keeps no order by this name."""

    def __init__(self, name):
        self.name = name
