"""The errors of the package."""


class FormError(Exception):
    """The base class of all errors of the package."""


class BadValue(FormError):
    """An argument is not as described; at is its zero-based position."""

    def __init__(self, at):
        FormError.__init__(self, "an argument is not as described")
        self.at = at


class BadText(FormError):
    """A text is not that of a letter and masters; at is the zero-based number of its first wrong line."""

    def __init__(self, at):
        FormError.__init__(self, "a line of the text is not as described")
        self.at = at


class BadLevels(FormError):
    """A value is no levels; at is the zero-based number of the first wrong one."""

    def __init__(self, at):
        FormError.__init__(self, "a level does not hold")
        self.at = at


class NoMaster(FormError):
    """No master has this name."""

    def __init__(self, name):
        FormError.__init__(self, "no master has this name")
        self.name = name


class TakenName(FormError):
    """A master has this name already."""

    def __init__(self, name):
        FormError.__init__(self, "a master has this name already")
        self.name = name


class TooMany(FormError):
    """There is no room for one more master."""

    def __init__(self):
        FormError.__init__(self)
