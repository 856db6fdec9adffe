"""What the program refuses with: one class for each kind of refusal."""


class ApartError(ValueError):
    """Any refusal."""


class NoText(ApartError):
    """A text that is not written as a list or a paper is."""


class NoLine(ApartError):
    """A line that the desk does not know."""


class NoSize(ApartError):
    """A number that is not within its bounds."""


class NoWord(ApartError):
    """A word that would be needed is not there."""


class Near(ApartError):
    """A word is there already."""
