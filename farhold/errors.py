"""The refusals, one class for each; HoldError takes them all."""


class HoldError(ValueError):
    pass


class NoHouse(HoldError):
    pass


class NotHeld(HoldError):
    pass


class NotNear(HoldError):
    pass


class Missing(HoldError):
    pass


class NoWeight(HoldError):
    pass


class NoLetter(HoldError):
    pass


class NoInquiry(HoldError):
    pass


class NoRow(HoldError):
    pass
