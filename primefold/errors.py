"""The refusals: each one is a FoldError."""


class FoldError(ValueError):
    pass


class NoSum(FoldError):
    pass


class NoText(FoldError):
    pass


class NoPart(FoldError):
    pass
