"""The refusals: one class each, all straight under MeetError."""


class MeetError(ValueError):
    pass


class NoPlan(MeetError):
    pass


class NoPaper(MeetError):
    pass


class NoPrimes(MeetError):
    pass


class TooMany(MeetError):
    pass


class NoText(MeetError):
    pass


class NoName(MeetError):
    pass


class NoRow(MeetError):
    pass
