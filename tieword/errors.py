"""The refusals: all of them stand under WebError, and none under another."""


class WebError(ValueError):
    pass


class TooGreat(WebError):
    pass


class BadPlace(WebError):
    pass


class BadTie(WebError):
    pass


class BadOrder(WebError):
    pass


class TooMany(WebError):
    pass


class BadText(WebError):
    pass


class BadName(WebError):
    pass


class Twice(WebError):
    pass


class NoWeb(WebError):
    pass


class BadRule(WebError):
    pass


class NoWay(WebError):
    pass
