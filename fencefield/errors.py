"""The refusals: one class for each, all of them straight beneath FenceError."""


class FenceError(ValueError):
    pass


class NoFence(FenceError):
    pass


class NoTurning(FenceError):
    pass


class TooWide(FenceError):
    pass
