"""The refusals: one class for each reason, all of them under WeaveError."""


class WeaveError(ValueError):
    """Any refusal. Its called() tells the name of the class."""

    def called(self):
        return "WeaveError"


class NoRow(WeaveError):
    """A text does not write a row."""

    def called(self):
        return "NoRow"


class TooLarge(WeaveError):
    """What is asked for would be larger than is told here."""

    def called(self):
        return "TooLarge"


class NoCloth(WeaveError):
    """A list of texts is no cloth."""

    def called(self):
        return "NoCloth"


class NoDraft(WeaveError):
    """Lists or a text do not make a draft."""

    def called(self):
        return "NoDraft"


class NoStrand(WeaveError):
    """A number is no strand's, or a list of strands is not as told."""

    def called(self):
        return "NoStrand"


class NoDeed(WeaveError):
    """A loom can't do what is asked of it as it stands."""

    def called(self):
        return "NoDeed"


class NoLaying(WeaveError):
    """Pieces do not fit the ends and picks that they are laid by."""

    def called(self):
        return "NoLaying"


class NoShuttle(WeaveError):
    """A list does not tell a shuttle for each pick."""

    def called(self):
        return "NoShuttle"


class NoColour(WeaveError):
    """A picture or the colours of its threads are not as told."""

    def called(self):
        return "NoColour"


class NoBlock(WeaveError):
    """Two units are not of one size."""

    def called(self):
        return "NoBlock"


class NoPattern(WeaveError):
    """A text does not write a pattern, or what it asks does not fit."""

    def called(self):
        return "NoPattern"


class Unknown(WeaveError):
    """A name is not known."""

    def called(self):
        return "Unknown"


class Twice(WeaveError):
    """A name is given a second time."""

    def called(self):
        return "Twice"
