"""The errors that the program raises."""


class Fault(ValueError):
    """The base class of all errors of the program."""


class Malformed(Fault):
    """A value has not the form that is asked for."""


class Refused(Fault):
    """What is asked for is not done; `reason` is a string of small letters."""

    def __init__(self, reason):
        self.reason = reason


class NoText(Fault):
    """A text has not the form that is asked for; `at` tells the place, an integer."""

    def __init__(self, at):
        self.at = at
