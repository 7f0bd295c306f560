"""The refusals of the program."""


class WayError(ValueError):
    pass


class NoText(WayError):
    pass


class NoScheme(WayError):
    pass


class NoWord(WayError):
    pass


class NoSigns(WayError):
    pass


class NoPlace(WayError):
    pass
