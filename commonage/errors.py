"""The errors with which the functions of the package refuse (point [2])."""


class CommonageError(ValueError):
    """Every refusal is an error of a direct subclass of this class."""

    def __init__(self):
        ValueError.__init__(self)


class NotValid(CommonageError):
    """An argument is outside of its bounds."""
