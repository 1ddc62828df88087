"""The refusals of the program."""


class GatherError(ValueError):
    """Whatever this program refuses is refused by a class straight under this one."""


class NoShares(GatherError):
    """What was handed in as shares is none."""


class NoKind(GatherError):
    """What was handed in as a kind, or as some kinds, is none."""


class NoNumber(GatherError):
    """What was handed in as a number, or as a fraction, is none as told."""


class NoNeeds(GatherError):
    """What was handed in as needs is none."""


class NoPlan(GatherError):
    """What was handed in as a plan is none."""


class TooMany(GatherError):
    """What was handed in is right, but more than is taken."""


class NoLine(GatherError):
    """What was told a desk is no line."""


class NoText(GatherError):
    """What was handed in as the text of shares is none; `at` is the number of the first wrong word."""

    def __init__(self, at):
        super().__init__("this is not a text of shares")
        self.at = at
