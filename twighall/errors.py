"""The refusals of the program."""


class TwigError(ValueError):
    pass


class NoGround(TwigError):
    pass


class NoText(TwigError):
    pass


class NoTree(TwigError):
    pass
