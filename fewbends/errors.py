"""The refusals, one class for each, all straight under BendError."""


class BendError(ValueError):
    pass


class NoMap(BendError):
    pass


class NotFlat(BendError):
    pass


class NoLand(BendError):
    pass


class NoNet(BendError):
    pass


class NoShape(BendError):
    pass


class NoLaid(BendError):
    pass


class NoText(BendError):
    pass


class NoPicture(BendError):
    pass


class NoRow(BendError):
    pass


class NoThing(BendError):
    pass
