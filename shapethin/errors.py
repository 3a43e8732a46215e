"""The refusals of the program, one class each."""


class ShapeError(ValueError):
    pass


class TooGreat(ShapeError):
    pass


class TooMany(ShapeError):
    pass


class NoText(ShapeError):
    pass


class NoForm(ShapeError):
    pass


class NoName(ShapeError):
    pass


class NoRow(ShapeError):
    pass


class NoBack(ShapeError):
    pass
