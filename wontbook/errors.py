"""The refusals. WontError stands above them all."""


class WontError(ValueError):
    pass


class RowError(WontError):
    def __init__(self, row):
        self.row = row


class NoRow(RowError):
    pass


class TooLong(RowError):
    pass


class NoSentence(RowError):
    pass


class Twice(RowError):
    pass


class TooMany(RowError):
    pass


class NoAsk(WontError):
    pass


class NoName(WontError):
    pass


class NotTold(WontError):
    pass


class Torn(WontError):
    pass


class NoNews(WontError):
    pass
